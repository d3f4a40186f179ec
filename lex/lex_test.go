package lex_test

import (
	"errors"
	"math/rand"
	"regexp"
	"slices"
	"strings"
	"testing"
	"unsafe"

	"merlon/api"
	"merlon/lex"
)

const (
	low  = api.TokLower
	up   = api.TokUpper
	num  = api.TokNumber
	sign = api.TokSign
)

var signs = []string{"->", "..", "{", "}", "(", ")", "[", "]", "<", ">", ",", ":", ".", "="}

func tok(kind, at int, text string) api.Token { return api.Token{Kind: kind, At: at, Text: text} }

// The chapter's forms, as patterns, each at the begin of what is left of a text.
var (
	passedBy = regexp.MustCompile(`\A([ \t\n]|#[^\n]*)+`)
	forms    = []struct {
		kind int
		form *regexp.Regexp
	}{
		{low, regexp.MustCompile(`\A[a-z][a-zA-Z0-9]*`)},
		{up, regexp.MustCompile(`\A[A-Z][a-zA-Z0-9]*`)},
		{num, regexp.MustCompile(`\A[0-9]+`)},
		{sign, regexp.MustCompile(`\A(->|\.\.|[{}()\[\]<>,:.=])`)},
	}
)

// model reads a text by the patterns: its tokens and -1, or where it is at fault.
func model(s string) ([]api.Token, int) {
	var l []api.Token
	for at := 0; ; {
		at += len(passedBy.FindString(s[at:]))
		if at == len(s) {
			return l, -1
		}
		found := ""
		for _, f := range forms {
			if found = f.form.FindString(s[at:]); found != "" {
				l = append(l, tok(f.kind, at, found))
				break
			}
		}
		if found == "" {
			return nil, at
		}
		at += len(found)
	}
}

func wantTokens(t *testing.T, s string, want ...api.Token) {
	t.Helper()
	got, err := lex.Tokens(s)
	if err != nil || !slices.Equal(got, want) {
		t.Errorf("Tokens(%.60q) = %.200v, %v; want %.200v", s, got, err, want)
	}
}

func wantForm(t *testing.T, s string, at int) {
	t.Helper()
	got, err := lex.Tokens(s)
	spot, ok := err.(*api.Spot)
	if len(got) != 0 || !ok || spot.At != at || spot.Err != api.ErrForm || !errors.Is(err, api.ErrForm) {
		t.Errorf("Tokens(%.60q) = %.200v, %v; want ErrForm at %d", s, got, err, at)
	}
}

func wantLarge(t *testing.T, s string) {
	t.Helper()
	if got, err := lex.Tokens(s); len(got) != 0 || err != api.ErrLarge {
		t.Errorf("Tokens(%.60q) = %.200v, %v; want ErrLarge", s, got, err)
	}
}

// check holds one text against the patterns, and what is joined of it against P3.2 and P3.3.
func check(t *testing.T, s string) {
	t.Helper()
	want, at := model(s)
	if at >= 0 {
		wantForm(t, s, at)
		return
	}
	wantTokens(t, s, want...)
	wantJoined(t, want)
}

// wantJoined holds what is joined of tokens that were read against P3.2 and P3.3.
func wantJoined(t *testing.T, l []api.Token) {
	t.Helper()
	var texts []string
	var again []api.Token
	at := 0
	for _, k := range l {
		texts = append(texts, k.Text)
		again = append(again, tok(k.Kind, at, k.Text))
		at += len(k.Text) + 1
	}
	joined := lex.Join(l)
	if joined != strings.Join(texts, " ") {
		t.Errorf("Join(%.200v) = %.60q", l, joined)
	}
	if len(joined) > api.MaxText {
		wantLarge(t, joined)
		return
	}
	wantTokens(t, joined, again...)
}

func TestExample(t *testing.T) {
	wantTokens(t, "a->B1", tok(low, 0, "a"), tok(sign, 1, "->"), tok(up, 3, "B1"))
}

func TestWords(t *testing.T) {
	for _, s := range []string{"a", "z", "x1", "pointX", "aBC", "zZ9", "a0b1C2", "module", "val", "int", "z000"} {
		wantTokens(t, s, tok(low, 0, s))
	}
	for _, s := range []string{"A", "Z", "X1", "Point", "ABC", "Zz9", "A0b1C2", "Int", "List", "Z000"} {
		wantTokens(t, s, tok(up, 0, s))
	}
	// A word is longer than a name may be, and goes on as long as it stands there.
	for _, n := range []int{api.MaxName, api.MaxName + 1, 255, 256, 257, 5000} {
		s := strings.Repeat("aZ9", n)
		wantTokens(t, s, tok(low, 0, s))
		wantTokens(t, s[1:], tok(up, 0, s[1:]))
	}
	wantTokens(t, "ab Cd", tok(low, 0, "ab"), tok(up, 3, "Cd"))
}

func TestNumbers(t *testing.T) {
	for _, s := range []string{"0", "9", "10", "007", "00", "0123456789", "1000000000", strings.Repeat("9", 400)} {
		wantTokens(t, s, tok(num, 0, s))
	}
	wantTokens(t, "1 2", tok(num, 0, "1"), tok(num, 2, "2"))
}

func TestDigitsAheadOfLetters(t *testing.T) {
	wantTokens(t, "1a", tok(num, 0, "1"), tok(low, 1, "a"))
	wantTokens(t, "1A", tok(num, 0, "1"), tok(up, 1, "A"))
	wantTokens(t, "12ab34Cd", tok(num, 0, "12"), tok(low, 2, "ab34Cd"))
	wantTokens(t, "0x10", tok(num, 0, "0"), tok(low, 1, "x10"))
	wantTokens(t, "1e9", tok(num, 0, "1"), tok(low, 1, "e9"))
}

func TestSigns(t *testing.T) {
	for _, s := range signs {
		wantTokens(t, s, tok(sign, 0, s))
		wantTokens(t, "a"+s+"B", tok(low, 0, "a"), tok(sign, 1, s), tok(up, 1+len(s), "B"))
		wantTokens(t, s+"1"+s, tok(sign, 0, s), tok(num, len(s), "1"), tok(sign, len(s)+1, s))
	}
	wantTokens(t, "=>", tok(sign, 0, "="), tok(sign, 1, ">"))
	wantTokens(t, "->>", tok(sign, 0, "->"), tok(sign, 2, ">"))
	wantTokens(t, ">->", tok(sign, 0, ">"), tok(sign, 1, "->"))
	wantTokens(t, "->->", tok(sign, 0, "->"), tok(sign, 2, "->"))
	wantTokens(t, "<>()", tok(sign, 0, "<"), tok(sign, 1, ">"), tok(sign, 2, "("), tok(sign, 3, ")"))
	wantTokens(t, "::==", tok(sign, 0, ":"), tok(sign, 1, ":"), tok(sign, 2, "="), tok(sign, 3, "="))
}

func TestPoints(t *testing.T) {
	wantTokens(t, ".", tok(sign, 0, "."))
	wantTokens(t, "..", tok(sign, 0, ".."))
	wantTokens(t, ". .", tok(sign, 0, "."), tok(sign, 2, "."))
	wantTokens(t, "...", tok(sign, 0, ".."), tok(sign, 2, "."))
	wantTokens(t, "....", tok(sign, 0, ".."), tok(sign, 2, ".."))
	wantTokens(t, ".#.\n.", tok(sign, 0, "."), tok(sign, 4, "."))
	wantTokens(t, "m.x", tok(low, 0, "m"), tok(sign, 1, "."), tok(low, 2, "x"))
	wantTokens(t, "1.0..2",
		tok(num, 0, "1"), tok(sign, 1, "."), tok(num, 2, "0"), tok(sign, 3, ".."), tok(num, 5, "2"))
}

// All pairs and triples of signs that touch.
func TestSignsThatTouch(t *testing.T) {
	for _, a := range signs {
		for _, b := range signs {
			check(t, a+b)
			for _, c := range signs {
				check(t, a+b+c)
			}
		}
	}
}

func TestMinus(t *testing.T) {
	wantForm(t, "-", 0)
	wantForm(t, "--", 0)
	wantForm(t, "-->", 0)
	wantForm(t, "- >", 0)
	wantForm(t, "-\n>", 0)
	wantForm(t, "-#\n>", 0)
	wantForm(t, "-1", 0)
	wantForm(t, "->-", 2)
	wantForm(t, "a-", 1)
	wantForm(t, "a-b", 1)
	wantForm(t, "a -> b - c", 7)
}

func TestNothing(t *testing.T) {
	for _, s := range []string{"", " ", "\t", "\n", " \t\n \n\t", "#", "##", "# a -> b", "#\n", "\n#\n#", "#a\n\t#b", "# \x00\xff\r\u00e9 \"$%\n "} {
		wantTokens(t, s)
	}
}

func TestSpaces(t *testing.T) {
	wantTokens(t, " a\tB\n1  ->\n\n", tok(low, 1, "a"), tok(up, 3, "B"), tok(num, 5, "1"), tok(sign, 8, "->"))
	for _, s := range []string{" ", "\t", "\n"} {
		wantTokens(t, s+"ab"+s+"cd"+s, tok(low, 1, "ab"), tok(low, 4, "cd"))
		wantTokens(t, "1"+s+"2", tok(num, 0, "1"), tok(num, 2, "2"))
		wantTokens(t, ">"+s+">", tok(sign, 0, ">"), tok(sign, 2, ">"))
	}
	// Other bytes, and runes, that stand for spaces elsewhere are none.
	for _, s := range []string{"\r", "\v", "\f", "\x00", "\x1c", "\x85", "\xa0", "\u0085", "\u00a0", "\u2028", "\u3000", "\ufeff"} {
		wantForm(t, s, 0)
		wantForm(t, "a "+s+"b", 2)
		wantForm(t, "a\n"+s, 2)
	}
	wantForm(t, "a\r\nb", 1)
}

func TestRemarks(t *testing.T) {
	wantTokens(t, "a#b\nc", tok(low, 0, "a"), tok(low, 4, "c"))
	wantTokens(t, "a # b", tok(low, 0, "a"))
	wantTokens(t, "a#", tok(low, 0, "a"))
	wantTokens(t, "a#\n", tok(low, 0, "a"))
	wantTokens(t, "#\na", tok(low, 2, "a"))
	wantTokens(t, "##a\n#b\nc#d\n#", tok(low, 7, "c"))
	wantTokens(t, "ab#\ncd", tok(low, 0, "ab"), tok(low, 4, "cd"))
	wantTokens(t, "1#2\n3", tok(num, 0, "1"), tok(num, 4, "3"))
	// Nothing in it is at fault, and no byte but 0a ends its line.
	wantTokens(t, "#-$\"\x00\xff\u00e9\n1", tok(num, 9, "1"))
	for _, s := range []string{"\r", "\v", "\f", "\x00", "\x85", "\u0085", "\u2028", "\u2029"} {
		wantTokens(t, "#"+s+"a b")
		wantTokens(t, "#"+s+"a\nb", tok(low, len(s)+3, "b"))
	}
	// What is behind its line's end is read on.
	wantForm(t, "#$\n$", 3)
	wantForm(t, "# a\n\xff", 4)
	wantForm(t, "a $ # b", 2)
}

// stands tells whether a token begins with that byte, or it is passed by, whatever is behind it.
func stands(b byte) bool {
	return strings.IndexByte(" \t\n#{}()[]<>,:.=", b) >= 0 || 'a' <= b && b <= 'z' || 'A' <= b && b <= 'Z' || '0' <= b && b <= '9'
}

// Each byte that stands for nothing, alone, at the begin, in the midst, and at the end.
func TestWrongBytes(t *testing.T) {
	n := 0
	for i := range 256 {
		b := byte(i)
		if stands(b) {
			continue
		}
		n++
		s := string([]byte{b})
		wantForm(t, s, 0)
		wantForm(t, s+"a->B1", 0)
		wantForm(t, s+" a", 0)
		wantForm(t, "a"+s+"b", 1)
		wantForm(t, "A1 "+s+" b", 3)
		wantForm(t, "12"+s+"3", 2)
		wantForm(t, "->"+s+"..", 2)
		wantForm(t, "{a: B}"+s, 6)
		wantForm(t, "a "+s, 2)
		wantForm(t, "\n\t "+s, 3)
		wantForm(t, "# x\n"+s, 4)
		// The first one is told.
		wantForm(t, "a"+s+s+"\xff-", 1)
	}
	if n != 256-len(" \t\n#")-len("{}()[]<>,:.=")-26-26-10 {
		t.Errorf("%d bytes that stand for nothing", n)
	}
}

func TestBeyondASCII(t *testing.T) {
	for b := 0x80; b <= 0xff; b++ {
		wantForm(t, string([]byte{'a', byte(b), 'b'}), 1)
		wantTokens(t, string([]byte{'a', '#', byte(b), '\n', 'b'}), tok(low, 0, "a"), tok(low, 4, "b"))
	}
	// The place is a byte's, not a rune's.
	wantForm(t, "#\u00e9\u00e9\n\u00e9", 6)
	wantTokens(t, "#\u20ac\na", tok(low, 5, "a"))
	// Letters and digits of other writings are none.
	for _, s := range []string{"\u00e9", "\u00c9", "\u0430", "\u0410", "\u0661", "\uff11", "\uff21", "\uff41", "\u212a", "\u017f", "\u0301", "\u2192", "\u2025"} {
		wantForm(t, s, 0)
		wantForm(t, "a"+s, 1)
		wantForm(t, "A"+s, 1)
		wantForm(t, "1"+s, 1)
	}
	// The low bits of these are those of letters.
	wantForm(t, "\u0161", 0)
	wantForm(t, "\xe1", 0)
	wantForm(t, "\xc1", 0)
	wantForm(t, "\xb0", 0)
}

func TestLarge(t *testing.T) {
	for _, s := range []string{"a", "A", "1", " ", "\n", "#", "=", "\t"} {
		full := strings.Repeat(s, api.MaxText)
		check(t, full)
		wantLarge(t, full+s)
	}
	word := strings.Repeat("a", 20000)
	wantTokens(t, word, tok(low, 0, word))
	wantLarge(t, word+"a")
	wantLarge(t, word+"\n")
	points := strings.Repeat(".", 20000)
	if l, err := lex.Tokens(points); err != nil || len(l) != 10000 {
		t.Errorf("%d tokens, %v", len(l), err)
	}
	check(t, points)
	check(t, points[:19999])
	check(t, strings.Repeat("-> ", 6666)+"aZ")
	// The last byte that may be is told, and the first one of a text that is too long isn't.
	wantForm(t, word[1:]+"$", 19999)
	wantForm(t, word[1:]+"-", 19999)
	wantForm(t, "$"+word[1:], 0)
	wantLarge(t, "$"+word)
	wantLarge(t, word+"$")
	wantLarge(t, strings.Repeat("\xff", 20001))
	// Bytes count, not runes, and in a remark, too.
	check(t, "#"+strings.Repeat("\u00e9", 9999)+"\n")
	wantLarge(t, "#"+strings.Repeat("\u00e9", 10000))
	wantLarge(t, strings.Repeat(" ", 20001))
	for _, n := range []int{20002, 1<<15 + 1, 1 << 16, 1<<16 + 1, 1 << 24} {
		wantLarge(t, strings.Repeat("a", n))
	}
}

func wantJoin(t *testing.T, want string, texts ...string) {
	t.Helper()
	var l []api.Token
	for i, s := range texts {
		l = append(l, tok(i%7-1, 50-i, s))
	}
	given := slices.Clone(l)
	if got := lex.Join(l); got != want {
		t.Errorf("Join of %q = %q", texts, got)
	}
	if !slices.Equal(l, given) {
		t.Errorf("Join of %q changed what it was handed", texts)
	}
}

// Texts alone count: kinds and places may be any.
func TestJoin(t *testing.T) {
	if s := lex.Join(nil); s != "" {
		t.Errorf("Join(nil) = %q", s)
	}
	wantJoin(t, "")
	wantJoin(t, "a", "a")
	wantJoin(t, "a -> B1", "a", "->", "B1")
	wantJoin(t, ". .", ".", ".")
	wantJoin(t, "1 . 0 .. 2", "1", ".", "0", "..", "2")
	wantJoin(t, "- >", "-", ">")
	// Tokens that no text has.
	wantJoin(t, "", "")
	wantJoin(t, " ", "", "")
	wantJoin(t, "  a ", "", "", "a", "")
	wantJoin(t, "a b  c\n #", "a b", " c\n", "#")
	wantJoin(t, "\xff \u00e9 \x00", "\xff", "\u00e9", "\x00")
	// It has no bound of its own.
	long := strings.Repeat("a", 20000)
	wantJoin(t, long+" "+long, long, long)
}

func TestJoinedReadsAgain(t *testing.T) {
	for _, s := range []string{
		"", "a->B1", "a.b", "a . b", "a..b", "...", ". .", "1a", "1 a", "{b: Int, a: Text}", "module m opaque T val f : (T) -> Int",
		"<p 1 m T>#x\n[A:T,B:(T)->T]", "package p version 1.0.0 dep q 1.0.0..1.5.0", "fn(x: Int) x.a(1)(2)", "m:f=1", "#", "\t\n",
	} {
		l, err := lex.Tokens(s)
		if err != nil {
			t.Errorf("Tokens(%q): %v", s, err)
		}
		wantJoined(t, l)
	}
	// 10000 tokens of one byte are joined to 19999, one more to 20001.
	for _, n := range []int{9999, 10000, 10001} {
		l, err := lex.Tokens(strings.Repeat("=", n))
		if s := lex.Join(l); err != nil || len(s) != 2*n-1 {
			t.Errorf("%d bytes, %v", len(s), err)
		}
		wantJoined(t, l)
	}
	// Joined, it has 20000 bytes.
	check(t, "aa"+strings.Repeat("=", 9999))
}

// What one call answered is changed; what another one answered isn't.
func TestNewLists(t *testing.T) {
	const s = "a->B1"
	one, _ := lex.Tokens(s)
	two, _ := lex.Tokens(s)
	for i := range one {
		one[i] = tok(9, 9, "x")
	}
	if got := lex.Join(two); got != "a -> B1" {
		t.Errorf("%q", got)
	}
	wantTokens(t, s, two...)
}

// shares tells whether a piece, of one byte at least, lies in the memory of a text.
func shares(s, piece string) bool {
	from := uintptr(unsafe.Pointer(unsafe.StringData(s)))
	at := uintptr(unsafe.Pointer(unsafe.StringData(piece)))
	return from <= at && at < from+uintptr(len(s))
}

// A token keeps nothing of its text, however short it is, nor what is joined of the tokens.
func TestNewTexts(t *testing.T) {
	s := strings.Repeat("a->B1 {x..12}\n", 1400)
	l, err := lex.Tokens(s)
	if err != nil || len(l) != 1400*8 {
		t.Fatal(len(l), err)
	}
	for _, k := range l {
		if shares(s, k.Text) {
			t.Fatalf("%v is a piece of the text", k)
		}
		if shares(k.Text, lex.Join([]api.Token{k})) {
			t.Fatalf("what is joined is the text of %v", k)
		}
	}
}

// All texts of up to two bytes, and each byte behind, between and ahead.
func TestAllBytes(t *testing.T) {
	check(t, "")
	for a := range 256 {
		one := string([]byte{byte(a)})
		check(t, one)
		for b := range 256 {
			check(t, string([]byte{byte(a), byte(b)}))
		}
		for _, s := range []string{"a->B1", "x1 # y\n..", "{a: Int}", "1.2..3", "->-> a"} {
			for i := 0; i <= len(s); i++ {
				check(t, s[:i]+one+s[i:])
				if i < len(s) {
					check(t, s[:i]+one+s[i+1:])
				}
			}
		}
	}
}

// allTexts are those of the letters, of up to most of them: the shorter ones first.
func allTexts(letters string, most int) []string {
	all := []string{""}
	for i := 0; len(all[i]) < most; i++ {
		for _, l := range letters {
			all = append(all, all[i]+string(l))
		}
	}
	return all
}

func TestAllShort(t *testing.T) {
	for _, l := range [][]string{allTexts("a0Z", 7), allTexts("->. ", 6), allTexts("a#\n$ ", 6), allTexts("a1.->#\n", 5)} {
		for _, s := range l {
			check(t, s)
		}
	}
}

// Texts put together of pieces, the same ones at each run.
func TestManyTexts(t *testing.T) {
	pieces := append([]string{"a", "Z", "0", "x1Y", "Point", "42", " ", "\n", "\t", "#", "# r -> \xff\n", "\n\n", "-", "$", "\r", "\u00e9", "\xff"}, signs...)
	r := rand.New(rand.NewSource(3))
	for range 20000 {
		var b strings.Builder
		// What is at fault stands seldom in them, or hardly any would be read whole.
		for range r.Intn(30) {
			p := pieces[r.Intn(len(pieces))]
			if strings.Contains("-$\r\u00e9\xff", p) && r.Intn(20) > 0 {
				p = " "
			}
			b.WriteString(p)
		}
		check(t, b.String())
	}
}
