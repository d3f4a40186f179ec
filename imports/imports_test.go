package imports_test

import (
	"errors"
	"math"
	"slices"
	"strings"
	"testing"

	"merlon/api"
	"merlon/cursor"
	"merlon/imports"
	"merlon/lex"
)

func imp(pkg string, major int, mod, as string) api.Import {
	return api.Import{Pkg: pkg, Major: major, Mod: mod, As: as}
}

// read reads a text's imports, and tells where the cursor stands then.
func read(t *testing.T, s string) ([]api.Import, *cursor.Cursor) {
	t.Helper()
	l, err := lex.Tokens(s)
	if err != nil {
		t.Fatalf("Tokens(%q): %v", s, err)
	}
	c := cursor.New(l, 0)
	return imports.Read(c), c
}

func TestMay(t *testing.T) {
	good := imp("p", 1, "q", "r")
	for n := range 25 {
		if got := imports.May(slices.Repeat([]api.Import{good}, n)); got != (n <= 20) {
			t.Errorf("May of %d is %v", n, got)
		}
	}
	for _, bad := range []api.Import{{}, imp("", 1, "q", "r"), imp("P", 1, "q", "r"), imp("p", 1, "Q", "r"), imp("p", 1, "q", "R"), imp("p", 1, "q", "as"), imp("p", 1, "use", "r"), imp(strings.Repeat("p", 21), 1, "q", "r"),
		imp("p", 0, "q", "r"), imp("p", -1, "q", "r"), imp("p", api.MaxPart+1, "q", "r"), imp("p", 1<<32+1, "q", "r"), imp("p", math.MinInt, "q", "r")} {
		for _, l := range [][]api.Import{{bad}, {good, bad}, {bad, good}} {
			if imports.May(l) {
				t.Errorf("May(%v) is true", l)
			}
		}
	}
	if !imports.May([]api.Import{imp("p", api.MaxPart, "p", "p"), good, good}) {
		t.Error("May is false")
	}
}

func TestTextIsRead(t *testing.T) {
	const want = "import p 1 q as r\nimport json 999999999 reader as json\n"
	l := []api.Import{imp("p", 1, "q", "r"), imp("json", api.MaxPart, "reader", "json")}
	was := slices.Clone(l)
	if got := imports.Text(l); got != want || imports.Text(nil) != "" || !slices.Equal(l, was) {
		t.Errorf("Text = %q", got)
	}
	got, c := read(t, want+"use x")
	if !slices.Equal(got, l) || c.Err() != nil || c.At() != 12 {
		t.Errorf("%v, %v at %d", got, c.Err(), c.At())
	}
	for _, s := range []string{"", "use", "as", "Import p 1 q as r", "imports"} {
		if got, c := read(t, s); len(got) != 0 || c.Err() != nil || c.At() != 0 {
			t.Errorf("%q: %v, %v at %d", s, got, c.Err(), c.At())
		}
	}
}

func TestAmiss(t *testing.T) {
	var s *api.Spot
	for text, want := range map[string]api.Spot{
		"import": {At: 1, Err: api.ErrForm}, "import P": {At: 1, Err: api.ErrForm}, "import p 0 q as r": {At: 2, Err: api.ErrForm}, "import p 01": {At: 2, Err: api.ErrForm},
		"import p 1000000000": {At: 2, Err: api.ErrForm}, "import p 1 Q": {At: 3, Err: api.ErrForm}, "import p 1 q r": {At: 4, Err: api.ErrForm}, "import p 1 q as as": {At: 5, Err: api.ErrForm}, "import p 1 q as r import": {At: 7, Err: api.ErrForm},
		strings.Repeat("import p 1 q as r ", 21):            {At: 120, Err: api.ErrLarge},
		strings.Repeat("import p 1 q as r ", 20) + "import": {At: 120, Err: api.ErrLarge},
		strings.Repeat("import p 1 q as r ", 900):           {At: 120, Err: api.ErrLarge},
	} {
		if _, c := read(t, text); !errors.As(c.Err(), &s) || *s != want {
			t.Errorf("%.60q: %v; want %v", text, c.Err(), &want)
		}
	}
	if got, c := read(t, strings.Repeat("import p 1 q as r ", 20)); len(got) != 20 || c.Err() != nil || c.At() != 120 {
		t.Errorf("20: %d, %v", len(got), c.Err())
	}
	// A token of another Kind is no import's key.
	c := cursor.New([]api.Token{{Kind: api.TokUpper, Text: "import"}}, 0)
	if got := imports.Read(c); len(got) != 0 || c.Err() != nil || c.At() != 0 {
		t.Error(got, c.Err(), c.At())
	}
}
