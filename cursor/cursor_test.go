package cursor_test

import (
	"errors"
	"math"
	"slices"
	"strconv"
	"strings"
	"testing"
	"unsafe"

	"merlon/api"
	"merlon/cursor"
	"merlon/lex"
)

func tokens(t *testing.T, s string) []api.Token {
	t.Helper()
	l, err := lex.Tokens(s)
	if err != nil {
		t.Fatalf("Tokens(%q): %v", s, err)
	}
	return l
}

func wantAt(t *testing.T, c *cursor.Cursor, at int, done bool) {
	t.Helper()
	if c.At() != at || c.Err() != nil || c.Done() != done {
		t.Errorf("at %d, %v, %v; want %d, %v", c.At(), c.Err(), c.Done(), at, done)
	}
}

// wantErr holds what is amiss; and that nothing is found any more, and no other thing is amiss.
func wantErr(t *testing.T, c *cursor.Cursor, code api.Code, at int) {
	t.Helper()
	var s *api.Spot
	held := func() bool { return errors.As(c.Err(), &s) && s.Err == code && s.At == at }
	if !held() || !c.Done() || c.Next() != (api.Token{}) {
		t.Errorf("Err is %v, Next %v; want %v at %d, and no token", c.Err(), c.Next(), code, at)
	}
	c.Sign("(")
	c.Key("as")
	c.Word(cursor.Small)
	c.Number(0)
	c.Must(false, api.ErrFull)
	read := cursor.Read(c, func([]api.Token, int) (int, int, error) { return 7, 0, api.ErrFull })
	if !held() || read != 0 || !c.Done() || c.Next() != (api.Token{}) || c.Skip("(") || c.AtKey("as") {
		t.Errorf("it goes on behind %v at %d: %v", code, at, c.Err())
	}
}

func TestGoesOn(t *testing.T) {
	l := tokens(t, "use a : ( Tt ) 12 -> as")
	c := cursor.New(l, 0)
	c.Key("use")
	wantAt(t, c, 1, false)
	if c.Word(cursor.Small) != "a" || c.Skip("(") || c.Skip("as") || !c.Skip(":") {
		t.Error("a :")
	}
	c.Sign("(")
	if c.Next() != l[4] || c.Word(cursor.Great) != "Tt" {
		t.Error("Tt")
	}
	c.Pass()
	wantAt(t, c, 6, false)
	if c.Number(0) != 12 || c.AtKey("->") {
		t.Error("12")
	}
	c.Sign("->")
	if c.AtKey("use") || !c.AtKey("as") || !c.AtKey("as") || c.Skip("as") {
		t.Error("as")
	}
	c.Must(true, api.ErrForm)
	wantAt(t, c, 8, false)
	c.Key("as")
	wantAt(t, c, 9, true)
	if c.Next() != (api.Token{}) {
		t.Error("a token behind all")
	}
	c.Sign("(")
	wantErr(t, c, api.ErrForm, 9)
}

func TestPlaces(t *testing.T) {
	l := tokens(t, "a b c")
	for i := range 4 {
		c := cursor.New(l, i)
		wantAt(t, c, i, i == 3)
		if i < 3 && c.Word(cursor.Small) != l[i].Text {
			t.Errorf("word %d", i)
		}
	}
	wantAt(t, cursor.New(nil, 0), 0, true)
	// What lies behind the end, in the tokens' memory, is none of them.
	c := cursor.New(l[:1], 1)
	c.Word(cursor.Small)
	wantErr(t, c, api.ErrForm, 1)
}

func TestAmiss(t *testing.T) {
	for _, amiss := range []func(c *cursor.Cursor){
		func(c *cursor.Cursor) { c.Sign(")") },
		func(c *cursor.Cursor) { c.Sign("as") },
		func(c *cursor.Cursor) { c.Key("use") },
		func(c *cursor.Cursor) { c.Word(cursor.Great) },
		func(c *cursor.Cursor) { c.Word(cursor.Small) },
		func(c *cursor.Cursor) { c.Number(0) },
		func(c *cursor.Cursor) { c.Must(false, api.ErrForm); c.Must(false, api.ErrLarge) },
	} {
		c := cursor.New(tokens(t, "( as ("), 1)
		amiss(c)
		wantErr(t, c, api.ErrForm, 1)
	}
	c := cursor.New(tokens(t, "( as ("), 1)
	c.Must(false, api.ErrTwice)
	wantErr(t, c, api.ErrTwice, 1)
	// A sign is no key, and a key no sign.
	odd := []api.Token{{Kind: api.TokSign, Text: "as"}, {Kind: api.TokLower, Text: "("}}
	if cursor.New(odd, 0).AtKey("as") || cursor.New(odd, 1).Skip("(") || !cursor.New(odd, 0).Skip("as") || !cursor.New(odd, 1).AtKey("(") {
		t.Error("a token of another Kind")
	}
}

func TestNumbers(t *testing.T) {
	for _, n := range []int{0, 1, 2, 9, 10, 300, api.MaxPart - 1, api.MaxPart} {
		for least := range 3 {
			c := cursor.New(tokens(t, strconv.Itoa(n)), 0)
			got := c.Number(least)
			if n < least {
				wantErr(t, c, api.ErrForm, 0)
				continue
			}
			if got != n {
				t.Errorf("%d is read as %d", n, got)
			}
			wantAt(t, c, 1, true)
		}
	}
	for _, s := range []string{"", "00", "01", "0999999999", "1000000000", "4294967297", "18446744073709551617", strings.Repeat("9", 400), "+1", "-0", "-1", " 1", "1_0", "0x1", "a"} {
		c := cursor.New([]api.Token{{Kind: api.TokNumber, Text: s}}, 0)
		c.Number(0)
		wantErr(t, c, api.ErrForm, 0)
	}
	for _, k := range []int{0, api.TokLower, api.TokUpper, api.TokSign, -1, math.MaxInt} {
		c := cursor.New([]api.Token{{Kind: k, Text: "1"}}, 0)
		c.Number(0)
		wantErr(t, c, api.ErrForm, 0)
	}
}

func TestNames(t *testing.T) {
	for _, k := range []int{0, api.TokLower, api.TokUpper, api.TokNumber, api.TokSign} {
		for _, s := range []string{"a", "aa1", "A", "Aa", "as", "Int", "1", "", strings.Repeat("a", 21), strings.Repeat("A", 21)} {
			small, great := s == "a" || s == "aa1", s == "A" || s == "Aa"
			token := api.Token{Kind: k, Text: s}
			if cursor.Small(token) != (small && k == api.TokLower) || cursor.Great(token) != (great && k == api.TokUpper) {
				t.Errorf("Small, Great of %v: %v, %v", token, cursor.Small(token), cursor.Great(token))
			}
		}
	}
}

func TestRead(t *testing.T) {
	l := tokens(t, "a b c d")
	var asked []api.Token
	from := -1
	two := func(l []api.Token, i int) (string, int, error) {
		asked, from = l, i
		return l[i].Text + l[i+1].Text, i + 2, nil
	}
	c := cursor.New(l, 1)
	if got := cursor.Read(c, two); got != "bc" || from != 1 || !slices.Equal(asked, l) {
		t.Errorf("Read is %q of %v, %d", got, asked, from)
	}
	wantAt(t, c, 3, false)
	got := cursor.Read(c, func([]api.Token, int) (string, int, error) { return "x", 1, &api.Spot{At: 2, Err: api.ErrDeep} })
	if got != "" {
		t.Errorf("%q beside an error", got)
	}
	wantErr(t, c, api.ErrDeep, 2)
}

func TestParse(t *testing.T) {
	two := func(c *cursor.Cursor) []string { return []string{c.Word(cursor.Small), c.Word(cursor.Small)} }
	for _, s := range []string{"a b", "a b C", "\n a # 1\n\tb"} {
		if got, err := cursor.Parse(s, two); !slices.Equal(got, []string{"a", "b"}) || err != nil {
			t.Errorf("%q: %q, %v", s, got, err)
		}
	}
	var s *api.Spot
	for text, want := range map[string]api.Spot{"": {At: 0, Err: api.ErrForm}, "a": {At: 1, Err: api.ErrForm}, "a B": {At: 1, Err: api.ErrForm}, "A b": {At: 0, Err: api.ErrForm}, "a b $": {At: 4, Err: api.ErrForm}, "$ B": {At: 0, Err: api.ErrForm}} {
		if got, err := cursor.Parse(text, two); got != nil || !errors.As(err, &s) || *s != want {
			t.Errorf("%q: %q, %v; want %v", text, got, err, &want)
		}
	}
	long := "a b" + strings.Repeat(" ", api.MaxText-3)
	if got, err := cursor.Parse(long, two); len(got) != 2 || err != nil {
		t.Errorf("the longest text: %q, %v", got, err)
	}
	if got, err := cursor.Parse(long+" ", two); got != nil || err != api.ErrLarge {
		t.Errorf("a longer text: %q, %v", got, err)
	}
}

// A word is told as a copy, and the tokens stay as they are.
func TestMemory(t *testing.T) {
	l := tokens(t, strings.Clone("word ( 1"))
	was := slices.Clone(l)
	c := cursor.New(l, 0)
	word := c.Word(cursor.Small)
	c.Sign("(")
	c.Number(0)
	if word != "word" || unsafe.StringData(word) == unsafe.StringData(l[0].Text) || !slices.Equal(l, was) {
		t.Error("a word shares its memory with the token, or the tokens were changed")
	}
}
