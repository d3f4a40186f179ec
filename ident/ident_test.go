package ident_test

import (
	"regexp"
	"slices"
	"strings"
	"testing"

	"merlon/api"
	"merlon/ident"
)

var keys = []string{"as", "alias", "dep", "hidden", "import", "is", "module", "opaque", "package", "use", "val", "version"}

var builtIns = []string{"Int", "Text", "Bool", "List"}

var (
	smallText = regexp.MustCompile(`\A[a-z][a-z0-9]{0,19}\z`)
	greatText = regexp.MustCompile(`\A[A-Z][A-Za-z0-9]{0,19}\z`)
)

// want holds one text against what all three calls are to say of it.
func want(t *testing.T, s string, small, great, key bool) {
	t.Helper()
	if got := ident.Small(s); got != small {
		t.Errorf("Small(%.60q) = %t", s, got)
	}
	if got := ident.Great(s); got != great {
		t.Errorf("Great(%.60q) = %t", s, got)
	}
	if got := ident.Key(s); got != key {
		t.Errorf("Key(%.60q) = %t", s, got)
	}
}

// check holds one text against the forms of names and the lists, and P2.2.
func check(t *testing.T, s string) {
	t.Helper()
	key := slices.Contains(keys, s)
	want(t, s, smallText.MatchString(s) && !key, greatText.MatchString(s) && !slices.Contains(builtIns, s), key)
	if ident.Small(s) && ident.Great(s) {
		t.Errorf("%.60q is both a small and a great name", s)
	}
}

func TestSmall(t *testing.T) {
	for _, s := range []string{
		"x1", "a", "z", "a0", "z9", "x", "json", "json2", "a1b2c3", "x00", "http2server", "az09za",
		"int", "text", "bool", "list", "abcdefghijklmnopqrst", "uvwxyz0123456789abcd", "a0000000000000000000",
	} {
		want(t, s, true, false, false)
	}
}

func TestGreat(t *testing.T) {
	for _, s := range []string{
		"Point", "A", "Z", "A0", "Z9", "Az", "AZ", "X1y2Z3", "HTTP", "Http2Server", "Record", "Variant", "Func", "Opaque",
		"ABCDEFGHIJKLMNOPQRST", "Uvwxyz0123456789ABCD", "Z9999999999999999999",
	} {
		want(t, s, false, true, false)
	}
}

func TestKey(t *testing.T) {
	for _, s := range keys {
		want(t, s, false, false, true)
	}
}

// What only begins like a key, or holds one, is a name as others are.
func TestNearKeys(t *testing.T) {
	for _, s := range []string{
		"a", "i", "ass", "asis", "as1", "iss", "is0", "isa", "us", "uses", "used", "va", "vals", "value", "de", "deps", "depth",
		"aliases", "hide", "imports", "imported", "modules", "mod", "opaques", "packages", "pack", "versions", "versio",
	} {
		want(t, s, true, false, false)
	}
	for _, k := range keys {
		want(t, strings.ToUpper(k[:1])+k[1:], false, true, false)
		want(t, strings.ToUpper(k), false, true, false)
		for _, s := range []string{k + " ", " " + k, k + "\n", k + "\x00", k + ".", k + "," + k, k[:1] + strings.ToUpper(k[1:])} {
			want(t, s, false, false, false)
		}
	}
}

// The words of other types, and of terms, are no keys of the document's.
func TestNoKeys(t *testing.T) {
	for _, s := range []string{"type", "let", "if", "then", "else", "case", "fn", "true", "false", "opaq", "record", "func", "open", "local", "alia", "any"} {
		want(t, s, true, false, false)
	}
}

func TestBuiltIns(t *testing.T) {
	for _, s := range builtIns {
		want(t, s, false, false, false)
		want(t, strings.ToLower(s), true, false, false)
		want(t, strings.ToUpper(s), false, true, false)
		want(t, s+"s", false, true, false)
		want(t, s+"1", false, true, false)
		want(t, s[:len(s)-1], false, true, false)
		want(t, s+" ", false, false, false)
	}
}

func TestWrong(t *testing.T) {
	for _, s := range []string{
		"", " ", "0", "9", "1a", "0A", "9Z", "_", "_a", "a_b", "A_b", "a-b", "A-B", "a.b", "A.B", "a b", "A b", " a", "a ", " A", "A ",
		"a\n", "A\n", "\na", "a\t", "a\r", "a\x00", "\x00a", "A\x00", "\x00", "\x7f", "#a", "a#", "->", "..", "{", "a,b", "a:", "=a",
		"aB", "aBc", "x1Y", "pointX", "@", "`", "[", "{", "/", ":", "a@", "a`", "a[", "a{", "a/", "A@", "A`", "A[", "A{", "A/", "A:",
		"\u00e9", "a\u00e9", "A\u00e9", "\u00c9a", "\u0430", "a\u0430", "\u0410b", "\u0131nt", "a\u0661", "A\uff11", "\uff41", "\uff21", "a\u0301", "\u212a",
		"\xff", "a\xff", "A\xff", "\xe1", "a\x80", "A\xc3", "\u017f", "a\u200d",
	} {
		want(t, s, false, false, false)
	}
}

func TestLengths(t *testing.T) {
	for n := 1; n <= 3*api.MaxName; n++ {
		may := n <= api.MaxName
		want(t, strings.Repeat("a", n), may, false, false)
		want(t, strings.Repeat("A", n), false, may, false)
		want(t, "z"+strings.Repeat("9", n-1), may, false, false)
		want(t, "Z"+strings.Repeat("9", n-1), false, may, false)
		want(t, strings.Repeat("0", n), false, false, false)
	}
	// Lengths that are short again, once they are cut to few bits.
	for _, n := range []int{256, 257, 276, 1 << 16, 1<<16 + 5, 1 << 24} {
		want(t, strings.Repeat("a", n), false, false, false)
		want(t, strings.Repeat("A", n), false, false, false)
	}
	// At most 20 runes, but more bytes.
	want(t, "a"+strings.Repeat("\u00e9", 15), false, false, false)
	want(t, "A"+strings.Repeat("\u00e9", 15), false, false, false)
}

// All texts of up to two bytes, and each byte behind, between and ahead.
func TestAllBytes(t *testing.T) {
	check(t, "")
	for a := range 256 {
		one := string([]byte{byte(a)})
		check(t, one)
		for b := range 256 {
			check(t, string([]byte{byte(a), byte(b)}))
		}
		for _, s := range []string{"x1", "Point", "abcdefghijklmnopqrs", "ABCDEFGHIJKLMNOPQRS", "abcdefghijklmnopqrst"} {
			for i := 0; i <= len(s); i++ {
				check(t, s[:i]+one+s[i:])
			}
		}
	}
}

// allTexts are those of the letters, of up to most of them: the shorter ones first.
func allTexts(letters string, most int) []string {
	all := []string{""}
	for i := 0; len(all[i]) < most; i++ {
		for _, l := range letters {
			all = append(all, all[i]+string(l))
		}
	}
	return all
}

func TestAllShort(t *testing.T) {
	for _, l := range [][]string{allTexts("aisA1", 6), allTexts("valuseVdp", 5), allTexts("InTtLisB", 4), allTexts("az09AZ_ ", 5)} {
		for _, s := range l {
			check(t, s)
		}
	}
}

// All texts that are one byte away from a key or a type of the language's own.
func TestAllEdits(t *testing.T) {
	for _, s := range slices.Concat(keys, builtIns) {
		check(t, s)
		for i := 0; i <= len(s); i++ {
			for b := range 256 {
				one := string([]byte{byte(b)})
				check(t, s[:i]+one+s[i:])
				if i < len(s) {
					check(t, s[:i]+one+s[i+1:])
				}
			}
			if i < len(s) {
				check(t, s[:i]+s[i+1:])
			}
		}
	}
}

// P2.2, and that a key is no name, of texts of one spelling and another.
func TestNoneIsBoth(t *testing.T) {
	for _, s := range allTexts("aA0s", 7) {
		told := 0
		for _, is := range []bool{ident.Small(s), ident.Great(s), ident.Key(s)} {
			if is {
				told++
			}
		}
		if told > 1 {
			t.Errorf("%q is of %d sorts", s, told)
		}
	}
}
