package uses_test

import (
	"errors"
	"math"
	"math/rand"
	"reflect"
	"regexp"
	"slices"
	"strconv"
	"strings"
	"testing"
	"unsafe"

	"merlon/api"
	"merlon/expr"
	"merlon/kind"
	"merlon/lex"
	"merlon/sample"
	"merlon/uses"
)

var (
	intT, textT, boolT = sample.Int(), sample.Text(), sample.Bool()

	list   = sample.List
	fn     = sample.Func
	local  = sample.Local
	open   = sample.Open
	record = sample.Record
	imp    = sample.Import
	use    = sample.Use
	is     = sample.Is
	client = sample.Client
	nested = sample.Nested
	wide   = sample.Wide
	sized  = sample.Sized
	isSpot = sample.IsSpot
)

func imports(l ...api.Import) []api.Import { return l }

// lineOf writes a line by the chapter's words, whether it may be or not.
func lineOf(t *testing.T, l api.Line) string {
	t.Helper()
	o, err := kind.Print(l.Type)
	if err != nil {
		t.Fatal(l, err)
	}
	name := l.Mod + "." + l.Name
	return []string{"", "use " + name + " : " + o, "is " + name + " = " + o}[l.Kind] + "\n"
}

func textOf(t *testing.T, u api.Uses) string {
	t.Helper()
	s := ""
	for _, i := range u.Imports {
		s += strings.Join([]string{"import", i.Pkg, strconv.Itoa(i.Major), i.Mod, "as", i.As}, " ") + "\n"
	}
	for _, l := range u.Lines {
		s += lineOf(t, l)
	}
	return s
}

// Lists of no elements are told as nil, or as empty.

func sameLine(a, b api.Line) bool {
	return a.Kind == b.Kind && a.Mod == b.Mod && a.Name == b.Name && kind.Same(a.Type, b.Type)
}

func same(a, b api.Uses) bool {
	return slices.Equal(a.Imports, b.Imports) && slices.EqualFunc(a.Lines, b.Lines, sameLine)
}

func zero(u api.Uses) bool { return len(u.Imports) == 0 && len(u.Lines) == 0 }

// brief is what is told of one, which may have no text.
func brief(u api.Uses) string {
	s := strconv.Itoa(len(u.Imports)) + " imports and " + strconv.Itoa(len(u.Lines)) + " lines"
	for _, i := range u.Imports[:min(5, len(u.Imports))] {
		s += ", import " + i.Pkg + " " + strconv.Itoa(i.Major) + " " + i.Mod + " as " + i.As
	}
	for _, l := range u.Lines[:min(5, len(u.Lines))] {
		o, err := kind.Print(l.Type)
		if err != nil {
			o = "none"
		}
		s += ", " + strconv.Itoa(l.Kind) + " " + l.Mod + "." + l.Name + " " + o
	}
	return s
}

// wantMay holds one that may be, its text, and that this is parsed as it.
func wantMay(t *testing.T, u api.Uses) {
	t.Helper()
	if !uses.May(u) {
		t.Errorf("May(%s) is false", brief(u))
	}
	want := textOf(t, u)
	if got, err := uses.Print(u); err != nil || got != want {
		t.Errorf("Print = %.200q, %v; want %.200q", got, err, want)
	}
	if len(want) > api.MaxText {
		wantLexLarge(t, want)
		return
	}
	wantParse(t, want, u)
}

// wantNot holds one that may not be.
func wantNot(t *testing.T, u api.Uses) {
	t.Helper()
	if uses.May(u) {
		t.Errorf("May(%s) is true", brief(u))
	}
	if got, err := uses.Print(u); got != "" || err != api.ErrArg {
		t.Errorf("Print(%s) = %.200q, %v; want ErrArg itself", brief(u), got, err)
	}
	if err := uses.Check(u, nil); err != api.ErrArg {
		t.Errorf("Check(%s) = %v; want ErrArg itself", brief(u), err)
	}
}

func wantParse(t *testing.T, s string, want api.Uses) {
	t.Helper()
	if got, err := uses.Parse(s); err != nil || !same(got, want) {
		t.Errorf("Parse(%.300q) = %s, %v; want %s", s, brief(got), err, brief(want))
	}
}

func wantLexLarge(t *testing.T, s string) {
	t.Helper()
	if got, err := uses.Parse(s); err != api.ErrLarge || !zero(got) {
		t.Errorf("Parse of %d bytes = %s, %v; want lex's ErrLarge", len(s), brief(got), err)
	}
}

func wantSpot(t *testing.T, s string, code api.Code, at int) {
	t.Helper()
	if got, err := uses.Parse(s); !isSpot(err, code, at) || !zero(got) {
		t.Errorf("Parse(%.300q) = %s, %v; want %v at %d", s, brief(got), err, code, at)
	}
}

// tokens are those of a text that lex takes.
func tokens(t *testing.T, s string) []api.Token {
	t.Helper()
	l, err := lex.Tokens(s)
	if err != nil {
		t.Fatalf("Tokens(%.60q): %v", s, err)
	}
	return l
}

// wantAmiss holds what is amiss in a text; whatever stands behind the token at fault.
func wantAmiss(t *testing.T, s string, code api.Code, at int) {
	t.Helper()
	wantSpot(t, s, code, at)
	l := tokens(t, s)
	if at == len(l) {
		return
	}
	for _, more := range []string{"", "import", "use", "is", "import p 1 q as r", "use m.f : Int", "is m.T = Int", "T", "x", "9", ")", "m", "= Int", ": Int", "use m.f : {a: Int, a: Int}"} {
		wantSpot(t, lex.Join(l[:at+1])+" "+more, code, at)
	}
}

func wantForm(t *testing.T, s string, at int) {
	t.Helper()
	wantAmiss(t, s, api.ErrForm, at)
}

func TestExample(t *testing.T) {
	wantParse(t, "import p 1 m as m use m.f : Int", client(imports(imp("p", 1, "m", "m")), use("m", "f", intT)))
}

func TestText(t *testing.T) {
	u := client(imports(imp("p", 1, "q", "r"), imp("json", 20, "reader", "json")),
		use("r", "f", fn(local("r", "T"), list(open("p", 1, "q", "X")), boolT)), is("json", "Value", record("a b", local("", "U"), intT)), use("m", "x", textT))
	const want = `import p 1 q as r
import json 20 reader as json
use r.f : (r.T, List(<p 1 q X>)) -> Bool
is json.Value = {a: U, b: Int}
use m.x : Text
`
	if got, err := uses.Print(u); got != want || err != nil {
		t.Errorf("Print = %q, %v", got, err)
	}
	wantMay(t, u)
	for text, u := range map[string]api.Uses{
		"":                                client(nil),
		"import p 999999999 q as r\n":     client(imports(imp("p", api.MaxPart, "q", "r"))),
		"use m.f : Int\n":                 client(nil, use("m", "f", intT)),
		"is m.T = [A: {}]\n":              client(nil, is("m", "T", sample.Variant("A", record("")))),
		"is m.A = A\nuse m.a : m.A\n":     client(nil, is("m", "A", local("", "A")), use("m", "a", local("m", "A"))),
		"use m.a : Int\nuse m.a : Text\n": client(nil, use("m", "a", intT), use("m", "a", textT)),
	} {
		if got, err := uses.Print(u); got != text || err != nil {
			t.Errorf("Print(%s) = %q, %v; want %q", brief(u), got, err, text)
		}
		wantMay(t, u)
	}
	wantMay(t, api.Uses{})
	wantMay(t, api.Uses{Imports: []api.Import{}, Lines: []api.Line{}})
}

// Lines stand in an order of their own; nothing is asked of names that are there twice, or nowhere.
func TestOrder(t *testing.T) {
	wantMay(t, client(nil, use("m", "b", intT), is("m", "B", intT), use("m", "a", intT), is("k", "A", intT), use("a", "b", intT), is("m", "B", intT)))
	wantMay(t, client(imports(imp("q", 2, "n", "a"), imp("p", 1, "m", "a"), imp("p", 1, "m", "a"), imp("m", 1, "m", "m")), use("nowhere", "a", local("nowhere", "T"))))
	wantParse(t, "use m.b : Int is m.B = Int use m.a : Text", client(nil, use("m", "b", intT), is("m", "B", intT), use("m", "a", textT)))
}

// wantNames holds what may be a name, by the client that has it, and at which token it stands.
func wantNames(t *testing.T, small bool, at int, with func(string) api.Uses) {
	t.Helper()
	good, bad := sample.GoodGreat(), sample.BadGreat
	if small {
		good, bad = sample.GoodSmall(), sample.BadSmall
	}
	for _, s := range good {
		wantMay(t, with(s))
	}
	words, others := bad()
	for _, s := range words {
		wantNot(t, with(s))
		wantForm(t, textOf(t, with(s)), at)
	}
	for _, s := range others {
		wantNot(t, with(s))
	}
}

func TestNames(t *testing.T) {
	r, x := imp("p", 1, "q", "r"), use("r", "f", intT)
	wantNames(t, true, 1, func(s string) api.Uses { return client(imports(imp(s, 1, "q", "r"))) })
	wantNames(t, true, 3, func(s string) api.Uses { return client(imports(imp("p", 1, s, "r"))) })
	wantNames(t, true, 5, func(s string) api.Uses { return client(imports(imp("p", 1, "q", s)), x) })
	wantNames(t, true, 7, func(s string) api.Uses { return client(imports(r, imp(s, 1, "q", "r")), x) })
	wantNames(t, true, 1, func(s string) api.Uses { return client(nil, use(s, "f", intT)) })
	wantNames(t, true, 1, func(s string) api.Uses { return client(nil, is(s, "T", intT)) })
	wantNames(t, true, 7, func(s string) api.Uses { return client(imports(r), use(s, "f", intT), x) })
	wantNames(t, true, 13, func(s string) api.Uses { return client(imports(r), x, is(s, "T", intT)) })
	wantNames(t, true, 3, func(s string) api.Uses { return client(nil, use("m", s, intT)) })
	wantNames(t, false, 3, func(s string) api.Uses { return client(nil, is("m", s, intT)) })
	wantNames(t, true, 9, func(s string) api.Uses { return client(imports(r), use("m", s, intT), x) })
	wantNames(t, false, 9, func(s string) api.Uses { return client(nil, x, is("m", s, intT), x) })
}

func TestMajors(t *testing.T) {
	with := func(n int) api.Uses { return client(imports(imp("p", n, "q", "r")), use("r", "f", intT)) }
	for _, n := range []int{1, 2, 9, 10, 255, 256, 65536, 100000000, api.MaxPart - 1, api.MaxPart} {
		wantMay(t, with(n))
		wantForm(t, "import p 0"+strconv.Itoa(n)+" q as r", 2)
	}
	for _, n := range []int{0, -1, -2, api.MaxPart + 1, 1 << 31, 1<<32 + 1, math.MaxInt, math.MinInt, -api.MaxPart} {
		wantNot(t, with(n))
	}
	for _, s := range []string{"0", "00", "01", "1000000000", "4294967297", "18446744073709551617", strings.Repeat("9", 300), "a", "A", "as", "-> 1", ". 1", ".. 1"} {
		wantForm(t, "import p "+s+" q as r", 2)
	}
	wantForm(t, "import p 1.0.0 q as r", 3)
}

func TestKinds(t *testing.T) {
	for _, k := range []int{0, -1, 3, 4, 5, 257, 258, 1<<32 + 1, 1<<32 + 2, math.MaxInt, math.MinInt} {
		for _, name := range []string{"T", "t", ""} {
			bad := api.Line{Kind: k, Mod: "m", Name: name, Type: intT}
			wantNot(t, client(nil, bad))
			wantNot(t, client(nil, use("m", "f", intT), bad))
			wantNot(t, client(nil, bad, is("m", "T", intT)))
		}
	}
	wantNot(t, client(nil, api.Line{}))
}

func TestTypes(t *testing.T) {
	good := []api.Type{intT, textT, boolT, nested(31, intT), sized(500, intT), sized(499, local("", "T")), wide(20, intT), local("", "T"), local("m", "T"), record(""), record("a b", intT, list(boolT)), open("p", api.MaxPart, "m", "T"), fn(intT),
		{Kind: api.Int, Names: []string{}, Subs: []api.Type{}}}
	bad := []api.Type{{}, {Kind: -1}, {Kind: 10}, {Kind: api.Int, Name: "T"}, list(api.Type{}), nested(32, intT), sized(501, intT), wide(21, intT), fn(), record("b a", intT, intT), record("a", intT, intT), local("", "t"), local("M", "T"), open("p", 0, "m", "T"), {Kind: api.Variant}, {Kind: api.List}}
	for _, o := range good {
		wantMay(t, client(nil, use("m", "f", o)))
		wantMay(t, client(nil, is("m", "T", o)))
		wantMay(t, client(imports(imp("p", 1, "q", "r")), is("m", "T", intT), use("m", "f", o), use("m", "f", intT)))
	}
	for _, o := range bad {
		wantNot(t, client(nil, use("m", "f", o)))
		wantNot(t, client(nil, is("m", "T", o)))
		wantNot(t, client(imports(imp("p", 1, "q", "r")), is("m", "T", intT), use("m", "f", o), use("m", "f", intT)))
	}
}

// imports and lines of so many.

func manyImports(n int) []api.Import {
	l := imports()
	for i := range n {
		l = append(l, imp("p"+strconv.Itoa(i), 1+i, "m", "a"+strconv.Itoa(i)))
	}
	return l
}

func manyLines(n int) []api.Line {
	l := []api.Line{}
	for i := range n {
		s := strconv.Itoa(i)
		l = append(l, []api.Line{use("m"+s, "f"+s, fn(intT, textT)), is("m", "T"+s, list(local("", "T"))), is("m"+s, "U", intT)}[(i+n)%3])
	}
	return l
}

// ahead is how many tokens stand ahead of what follows these.
func ahead(t *testing.T, l []api.Import, lines ...api.Line) int {
	t.Helper()
	return len(tokens(t, textOf(t, client(l, lines...))))
}

func TestHowMany(t *testing.T) {
	for n := range 25 {
		u := client(manyImports(n), use("m", "f", intT))
		if n <= 20 {
			wantMay(t, u)
			wantMay(t, client(manyImports(n)))
			continue
		}
		wantNot(t, u)
		wantAmiss(t, textOf(t, u), api.ErrLarge, 6*20)
	}
	for n := range 70 {
		u := client(manyImports(n%21), manyLines(n)...)
		if n <= 60 {
			wantMay(t, u)
			continue
		}
		wantNot(t, u)
		wantAmiss(t, textOf(t, u), api.ErrLarge, ahead(t, u.Imports, u.Lines[:60]...))
	}
	for _, n := range []int{256, 257, 276, 300, 316, 65536 + 5} {
		wantNot(t, client(slices.Repeat(manyImports(1), n)))
		wantNot(t, client(nil, slices.Repeat(manyLines(1), n)...))
	}
	wantMay(t, client(manyImports(20), manyLines(60)...))
}

// Each place among many counts.
func TestEachPlace(t *testing.T) {
	for i := range 20 {
		u := client(manyImports(20), manyLines(60)...)
		u.Imports[i].Major = 0
		wantNot(t, u)
		wantForm(t, textOf(t, u), 6*i+2)
		u.Imports[i] = imp("p", 1, "q", "Q")
		wantNot(t, u)
		wantForm(t, textOf(t, u), 6*i+5)
	}
	for i := range 60 {
		u := client(manyImports(20), manyLines(60)...)
		n := ahead(t, u.Imports, u.Lines[:i]...)
		for at, bad := range map[int]api.Line{n + 3: use("m", "V", intT), n + 1: is("M", "T", intT)} {
			u.Lines[i] = bad
			wantNot(t, u)
			wantForm(t, textOf(t, u), at)
		}
		for _, bad := range []api.Line{use("m", "f", api.Type{}), is("m", "T", fn()), {}} {
			u.Lines[i] = bad
			wantNot(t, u)
		}
		u.Lines[i] = is("m", "t", intT)
		wantNot(t, u)
		wantForm(t, textOf(t, u), n+3)
	}
}

// Tokens alone count, not what stands between them.
func TestBetween(t *testing.T) {
	want := client(imports(imp("p", 1, "q", "r")), use("r", "f", fn(local("r", "T"), intT)), is("r", "T", list(intT)))
	wantParse(t, "import p 1 q as r use r.f : (r.T) -> Int is r.T = List(Int)", want)
	wantParse(t, "\n\nimport\np\n\t1\nq as # a name\nr use # a line\n\n r . f:(r.T)->Int is r\n.T=List(Int)# end", want)
	wantParse(t, "# use m.f : Int\nimport p 1q as r use r.f:( r . T ) -> Int is r .T =List ( Int )\n\n", want)
	wantParse(t, "use r.f : {b: Int, a: m.T}", client(nil, use("r", "f", record("a b", local("m", "T"), intT))))
	wantParse(t, " # nothing \n", client(nil))
	wantForm(t, "user.f : Int", 0)
	wantForm(t, "isr.T = Int", 0)
	wantForm(t, "importp 1 q as r", 0)
	wantForm(t, "import p1 q as r", 2)
	wantForm(t, "import p 1 qas r", 4)
	wantForm(t, "use r f : Int", 2)
	wantForm(t, "use r..f : Int", 2)
}

func TestForm(t *testing.T) {
	others := []string{"as", "module", "module m", "m", "T", "1", "0", "alias", "opaque T", "val f : Int", "dep", "Int", ".", ",", ":", "=", "->", "..", "(", ")", "{", "}", "[", "]", "<", ">", "Use r.f : Int", "Is", "Import", "uses", "isr", "imports"}
	for _, s := range others {
		wantForm(t, s, 0)
		wantForm(t, "import p 1 q as r "+s, 6)
		wantForm(t, "use r.f : Int "+s, 6)
		wantForm(t, "is r.T = U "+s, 6)
		wantForm(t, "import p 1 q as r use r.f : r.T is r.T = Int "+s, 20)
	}
	// Imports stand ahead of all lines.
	for _, s := range []string{"use r.f : Int", "is r.T = Int"} {
		wantForm(t, s+" import p 1 q as r", 6)
		wantForm(t, "import p 1 q as r "+s+" import p 1 q as r", 12)
		wantForm(t, "import p 1 q as r "+s+" "+s+" import p 1 q as r "+s, 18)
	}
}

// Each word of a line left out, told twice, or another one; and the text cut off there.
func TestFormOfLines(t *testing.T) {
	for _, ahead := range []string{"", "import p 1 q as r", "import a 12 b as c import d 3 e as f", "use m . f : Int", "import p 1 q as r is m . T = U"} {
		for _, line := range []string{"import p 1 q as r", "use r . f : U", "is r . T = U"} {
			words := append(strings.Fields(ahead), strings.Fields(line)...)
			first := len(strings.Fields(ahead))
			for i := first; i < len(words); i++ {
				if i > first {
					check(t, strings.Join(words[:i], " "))
				}
				for _, other := range strings.Fields("m T 1 0 as import use is val = : . , -> .. ( ) { <") {
					l := slices.Clone(words[:i+1])
					l[i] = other
					check(t, strings.Join(l, " "))
					check(t, strings.Join(append(l, words[i:]...), " "))
					check(t, strings.Join(append(l, words[i+1:]...), " "))
				}
				check(t, strings.Join(slices.Delete(slices.Clone(words), i, i+1), " "))
			}
		}
	}
	for s, at := range map[string]int{
		"import": 1, "import p": 2, "import p 1": 3, "import p 1 q": 4, "import p 1 q as": 5, "import p 1 q r": 4, "import p q as r": 2, "import p 1 q As r": 4, "import p 1 as r": 3, "import import": 1,
		"use": 1, "use r": 2, "use r.": 3, "use r.f": 4, "use r.f :": 5, "use f : Int": 2, "use r.f = Int": 4, "use r.f Int": 4, "use r.T : Int": 3, "use R.f : Int": 1, "use r.f.g : Int": 4, "use r.f : use r.g : Int": 5, "use r, f : Int": 2, "use use.f : Int": 1, "use r.is : Int": 3, "use .f : Int": 1,
		"is": 1, "is r": 2, "is r.": 3, "is r.T": 4, "is r.T =": 5, "is T = Int": 1, "is r.T : Int": 4, "is r.T Int": 4, "is r.t = Int": 3, "is R.T = Int": 1, "is r.T.U = Int": 4, "is r.T = is r.U = Int": 5, "is r:T = Int": 2, "is is.T = Int": 1, "is r.Int = Int": 3, "is r.T == Int": 5,
	} {
		wantForm(t, s, at)
		wantForm(t, "import p 1 q as r "+s, 6+at)
	}
}

// expr tells what is amiss of a type, at the token's number in the whole.
func TestExprErrors(t *testing.T) {
	for ahead, n := range map[string]int{"use m.f :": 5, "is m.T =": 5, "import p 1 q as r is r.T = {} use r.f :": 18, "use m.g : Int is m.T =": 11} {
		wantAmiss(t, ahead+" {a: Int, a: Int}", api.ErrTwice, n+5)
		wantAmiss(t, ahead+" [A: Int, B: Int, A: Int] use m.f : Int", api.ErrTwice, n+9)
		wantForm(t, ahead+" List() use m.f : Int", n+2)
		wantForm(t, ahead+" (Int) is m.T = Int", n+3)
		wantForm(t, ahead+" <p 01 m T>", n+2)
		wantForm(t, ahead+" m use m.f : Int", n+1)
		wantForm(t, ahead+" m", n+1)
		wantForm(t, ahead+" {a: Int", n+4)
		wantForm(t, ahead+" []", n+1)
		wantAmiss(t, ahead+strings.Repeat(" List (", 32)+" Int", api.ErrLarge, n+64)
		wantAmiss(t, ahead+" ("+strings.Repeat("Int, ", 20)+"Int) -> Int", api.ErrLarge, n+41)
		u, err := uses.Parse(ahead + " Int")
		if err != nil {
			t.Fatal(ahead, err)
		}
		o := sized(500, intT)
		u.Lines[len(u.Lines)-1].Type = o
		l := lex.Join(tokens(t, lineOf(t, use("m", "f", o)))[5:])
		wantParse(t, ahead+" "+l, u)
		wantAmiss(t, ahead+" () -> "+l, api.ErrLarge, n+3+len(tokens(t, l))-1)
		// The limits are of one type alone.
		u.Lines = append(u.Lines, is("z", "Z", o))
		wantParse(t, ahead+" "+l+" is z.Z = "+l, u)
	}
}

// From the left on: what stands behind the first thing amiss is not looked at.
func TestFirst(t *testing.T) {
	wantForm(t, "use val.f : {a: Int, a: Int}", 1)
	wantAmiss(t, "use m.f : {a: Int, a: Int} use val", api.ErrTwice, 10)
	twenty := textOf(t, client(manyImports(20)))
	for _, s := range []string{"import", "import import", "import p 1 q as r import", "import p 1 q as r use r.f : Int", "import 1"} {
		wantAmiss(t, twenty+s, api.ErrLarge, 120)
	}
	wantForm(t, twenty+"use m.f : Int import p 1 q as r", 126)
	wantForm(t, twenty+"as", 120)
	wantParse(t, twenty+"use m.f : Int", client(manyImports(20), use("m", "f", intT)))
	wantForm(t, textOf(t, client(manyImports(19)))+"import p 0 q as r import p 1 q as r", 116)
	lines := slices.Repeat([]api.Line{use("m", "f", intT), is("m", "T", textT)}, 30)
	for n, l := range map[int][]api.Import{0: nil, 120: manyImports(20)} {
		sixty := textOf(t, client(l, lines...))
		wantParse(t, sixty, client(l, lines...))
		for _, s := range []string{"use", "is", "use use", "is is", "use 1", "is 1", "use is", "is import", "use m.f : Int", "is m.T = Int"} {
			wantAmiss(t, sixty+s, api.ErrLarge, n+360)
		}
		for _, s := range []string{"import", "import p 1 q as r", "module", "as", "T", "opaque", "1", ":"} {
			wantForm(t, sixty+s, n+360)
		}
	}
}

func TestLexErrors(t *testing.T) {
	for s, at := range map[string]int{"$": 0, "use m.f : $": 10, "use m.f; is": 7, "use m.f : Int - > Int": 14, "use $": 4, "use m\r\n": 5, "is m.T\u00e9": 6, "import p 1 q as \"r\"": 16, "1 2 3 %": 6} {
		if got, err := uses.Parse(s); !isSpot(err, api.ErrForm, at) || !zero(got) {
			t.Errorf("Parse(%q) = %s, %v; want lex's ErrForm at byte %d", s, brief(got), err, at)
		}
	}
	full := "use m.f : Int" + strings.Repeat(" ", api.MaxText-13)
	wantParse(t, full, client(nil, use("m", "f", intT)))
	wantParse(t, strings.Repeat("\n", api.MaxText), client(nil))
	for _, s := range []string{full + " ", " " + full, full + "$", "$" + full, strings.Repeat("$", 20001), strings.Repeat(" ", 20001), strings.Repeat("use ", 1<<18)} {
		wantLexLarge(t, s)
	}
}

// What is told is told also of the longest texts.
func TestHuge(t *testing.T) {
	for s, at := range map[string]int{"use ": 1, "is ": 1, "import ": 1, "( ": 0} {
		wantSpot(t, strings.Repeat(s, api.MaxText/len(s)), api.ErrForm, at)
	}
	for s, at := range map[string]int{"import p 1 q as r ": 120, "use m.f:Int ": 360, "is m.A=List(Int) ": 540} {
		wantSpot(t, strings.Repeat(s, 1000), api.ErrLarge, at)
	}
	wantSpot(t, "use m.f : "+strings.Repeat("(", 19000), api.ErrLarge, 5+32)
	wantSpot(t, "is m.T = "+strings.Repeat("{a:", 6000), api.ErrLarge, 5+96)
	wantSpot(t, "import "+strings.Repeat("p ", 9000), api.ErrForm, 2)
}

// endless are types without an end, or near to it.
func endless() []api.Type {
	in := []api.Type{{Kind: api.List}}
	in[0].Subs = in
	both := []api.Type{{Kind: api.Func}, {Kind: api.Func}}
	both[0].Subs, both[1].Subs = both, both
	shared := intT
	for range 60 {
		shared = fn(shared, shared)
	}
	return []api.Type{in[0], both[0], shared, {Subs: in}}
}

// P1: types without end, and clients of many of them.
func TestEnds(t *testing.T) {
	for _, o := range endless() {
		for n := range 60 {
			l := manyLines(n + 1)
			for i := range l {
				l[i].Type = o
			}
			wantNot(t, client(manyImports(3), l...))
		}
		wantNot(t, client(nil, slices.Repeat([]api.Line{use("m", "f", o)}, 100000)...))
	}
	// 60 of the largest types: a long text, and an end.
	wantMay(t, client(manyImports(20), slices.Repeat([]api.Line{use("m", "f", sized(500, intT))}, 60)...))
	r := rand.New(rand.NewSource(111))
	for range 20000 {
		b := make([]byte, r.Intn(40))
		for i := range b {
			b[i] = "use.is=:mT 1{}()<>\nimport#\xff\x00\u00e9"[r.Intn(28)]
		}
		if u, err := uses.Parse(string(b)); err != nil && !zero(u) {
			t.Errorf("Parse(%q) = %s, %v", b, brief(u), err)
		}
	}
}

// P11.3: what is handed in stays as it is, what lies behind it in its memory too.
func TestStays(t *testing.T) {
	full := client(manyImports(8), manyLines(30)...)
	full.Lines[3] = is("m", "A", record("a b c", fn(intT, textT), list(local("m", "T")), open("p", 1, "m", "T")))
	was := sample.CloneClient(full)
	for n := range 9 {
		u := full
		u.Imports = full.Imports[:n]
		u.Lines = full.Lines[:3*n]
		uses.May(u)
		uses.Print(u)
		uses.Check(u, nil)
	}
	bad := sample.CloneClient(full)
	bad.Lines[29].Type = list(api.Type{})
	wasBad := sample.CloneClient(bad)
	wantNot(t, bad)
	if !reflect.DeepEqual(full, was) || !reflect.DeepEqual(bad, wasBad) {
		t.Error("a client was changed")
	}
}

// shares tells whether a piece, of one byte at least, lies in the memory of a text.
func shares(s, piece string) bool {
	from := uintptr(unsafe.Pointer(unsafe.StringData(s)))
	at := uintptr(unsafe.Pointer(unsafe.StringData(piece)))
	return from <= at && at < from+uintptr(len(s))
}

// texts are all texts of a client.
func texts(u api.Uses) []string {
	var l []string
	for _, i := range u.Imports {
		l = append(l, i.Pkg, i.Mod, i.As)
	}
	for _, n := range u.Lines {
		l = append(append(l, n.Mod, n.Name), sample.TextsOfType(n.Type)...)
	}
	return slices.DeleteFunc(l, func(s string) bool { return s == "" })
}

const long = "import pp 1 qq as rr import ss 22 tt as uu is rr.Aa = {bb: Int, aa: rr.Tt} use uu.ff : (<pp 1 qq Xx>, Tt) -> [Bb: {}, Aa: List({cc: Text, bb: Bool})] use rr.gg : {bb: Int, aa: rr.Tt}"

func TestNewTexts(t *testing.T) {
	s := strings.Clone(long)
	u, err := uses.Parse(s)
	if err != nil || len(texts(u)) != 28 {
		t.Fatal(len(texts(u)), err)
	}
	for _, name := range texts(u) {
		if shares(s, name) {
			t.Errorf("%s lies in the text", name)
		}
	}
	text, err := uses.Print(u)
	for _, name := range texts(u) {
		if err != nil || shares(text, name) || shares(name, text) {
			t.Errorf("%s lies in what was printed", name)
		}
	}
}

// No two lists share memory: not of two answers, and not of one.
func TestNewLists(t *testing.T) {
	one, errOne := uses.Parse(long)
	two, errTwo := uses.Parse(long)
	was := sample.CloneClient(two)
	if errOne != nil || errTwo != nil {
		t.Fatal(errOne, errTwo)
	}
	for i := range one.Lines {
		other, _ := uses.Parse(long)
		sample.SpoilType(other.Lines[i].Type)
		other.Lines[i] = was.Lines[i]
		if !same(other, was) {
			t.Errorf("the type of line %d shares a list with another one", i)
		}
	}
	for _, l := range one.Lines {
		sample.SpoilType(l.Type)
	}
	for i := range one.Lines[:cap(one.Lines)] {
		one.Lines[:cap(one.Lines)][i] = api.Line{Kind: -1}
	}
	for i := range one.Imports[:cap(one.Imports)] {
		one.Imports[:cap(one.Imports)][i] = api.Import{Major: -1}
	}
	if !same(two, was) {
		t.Error("two answers share a list")
	}
}

// A second reading of the texts.

var (
	smallName = regexp.MustCompile(`\A[a-z][a-z0-9]{0,19}\z`)
	greatName = regexp.MustCompile(`\A[A-Z][A-Za-z0-9]{0,19}\z`)
	smallNone = regexp.MustCompile(`\A(as|alias|dep|hidden|import|is|module|opaque|package|use|val|version)\z`)
	greatNone = regexp.MustCompile(`\A(Int|Text|Bool|List)\z`)
	number    = regexp.MustCompile(`\A[1-9][0-9]{0,8}\z`)
)

// fits tells whether a word may stand where a line's pattern has that one.
func fits(pattern, word string) bool {
	switch pattern {
	case "SMALL":
		return smallName.MatchString(word) && !smallNone.MatchString(word)
	case "GREAT":
		return greatName.MatchString(word) && !greatNone.MatchString(word)
	case "NUMBER":
		return number.MatchString(word)
	}
	return word == pattern
}

// patterns are those of the lines, each by its first word.
var patterns = map[string]string{
	"import": "import SMALL NUMBER SMALL as SMALL",
	"use":    "use SMALL . SMALL : TYPE",
	"is":     "is SMALL . GREAT = TYPE",
}

// modelParse reads the chapter line by line: the client, or what is amiss, and where.
func modelParse(l []api.Token) (u api.Uses, code api.Code, at int) {
	word := func(i int) string {
		if i < len(l) {
			return l[i].Text
		}
		return ""
	}
	for i := 0; i < len(l); {
		key := word(i)
		switch {
		case patterns[key] == "", key == "import" && len(u.Lines) > 0:
			return api.Uses{}, api.ErrForm, i
		case key == "import" && len(u.Imports) == 20, len(u.Lines) == 60:
			return api.Uses{}, api.ErrLarge, i
		}
		var words []string
		var o api.Type
		for _, p := range strings.Fields(patterns[key]) {
			if p == "TYPE" {
				was, end, err := expr.At(l, i)
				var s *api.Spot
				if errors.As(err, &s) {
					return api.Uses{}, s.Err.(api.Code), s.At
				}
				o, i = was, end
				continue
			}
			if !fits(p, word(i)) {
				return api.Uses{}, api.ErrForm, i
			}
			words = append(words, word(i))
			i++
		}
		switch key {
		case "import":
			n, _ := strconv.Atoi(words[2])
			u.Imports = append(u.Imports, imp(words[1], n, words[3], words[5]))
		case "use":
			u.Lines = append(u.Lines, use(words[1], words[3], o))
		case "is":
			u.Lines = append(u.Lines, is(words[1], words[3], o))
		}
	}
	return u, 0, 0
}

// check holds a text, which lex takes, against the second reading.
func check(t *testing.T, s string) api.Code {
	t.Helper()
	u, code, at := modelParse(tokens(t, s))
	if code != 0 {
		wantSpot(t, s, code, at)
		return code
	}
	wantParse(t, s, u)
	if !uses.May(u) {
		t.Errorf("May of what %.300q is parsed as is false", s)
	}
	return 0
}

// All short texts.
func TestAllShort(t *testing.T) {
	for _, words := range []struct {
		ahead, all string
		most       int
	}{
		{"", "import use is m T 1 as . = : Int", 4},
		{"", "import p 1 as use", 6},
		{"use", "use is T t . = : Int", 5},
		{"is", "use is T t . = : Int", 5},
		{"import p 1 q as r", "import use is p 1 q as T .", 4},
		{"import p 1 q as r use r", "use is T t . : {}", 5},
		{"is m . T = m", "import use is T t . = Int", 5},
		{"use m .", "use is T t : Int m . f", 4},
	} {
		found := 0
		var walk func(s string, left int)
		walk = func(s string, left int) {
			if check(t, s) == 0 {
				found++
			}
			if left == 0 {
				return
			}
			for _, w := range strings.Fields(words.all) {
				walk(s+" "+w, left-1)
			}
		}
		walk(words.ahead, words.most)
		if found == 0 {
			t.Errorf("no clients of %s", words.all)
		}
	}
}

// anyClient is one that may be, the same ones at each run.
func anyClient(r *rand.Rand, imports, all int) api.Uses {
	smalls, greats := strings.Fields("a b m x1 list json aa p q r"), strings.Fields("A B T U X1 Some None AA Aa")
	small := func() string { return smalls[r.Intn(len(smalls))] }
	u := client(nil)
	for range imports {
		u.Imports = append(u.Imports, imp(small(), 1+r.Intn(1000), small(), small()))
	}
	for range all {
		o := sample.AnyType(r.Intn, 1+r.Intn(4))
		if r.Intn(2) == 0 {
			u.Lines = append(u.Lines, use(small(), small(), o))
		} else {
			u.Lines = append(u.Lines, is(small(), greats[r.Intn(len(greats))], o))
		}
	}
	return u
}

// P11.4: its text is parsed as it.
func TestPrintedIsParsed(t *testing.T) {
	r := rand.New(rand.NewSource(11))
	for range 3000 {
		u := anyClient(r, r.Intn(21), r.Intn(61))
		wantMay(t, u)
		text, _ := uses.Print(u)
		if len(text) > api.MaxText {
			continue
		}
		got, err := uses.Parse(text)
		if again, _ := uses.Print(got); err != nil || again != text {
			t.Errorf("%.300q is printed as %.300q", text, again)
		}
	}
}

// A text of just MaxText bytes is parsed, one of a byte more is not.
func TestLongest(t *testing.T) {
	u := client(manyImports(20))
	for len(textOf(t, u)) < api.MaxText-500 {
		u.Lines = append(u.Lines, use("m", "f", wide(20, open("ppppp", 1, "mmmmm", "T"))))
	}
	for i := range u.Imports {
		left := api.MaxText - len(textOf(t, u))
		u.Imports[i].Pkg += strings.Repeat("p", min(left, 17))
		left = api.MaxText - len(textOf(t, u))
		u.Imports[i].As += strings.Repeat("a", min(left, 17))
	}
	if n := len(textOf(t, u)); n != api.MaxText {
		t.Fatal(n)
	}
	wantMay(t, u)
	u.Lines[0].Mod = "mm"
	wantMay(t, u)
	wantLexLarge(t, textOf(t, u))
}

// Texts of clients with one or two things changed.
func TestManyTexts(t *testing.T) {
	r := rand.New(rand.NewSource(66))
	others := strings.Fields("import use is as val module m T Int 1 0 01 1000000000 = : . .. , -> ( ) { } [ ] < > List aB " + strings.Repeat("a", 21) + " " + strings.Repeat("A", 21))
	told := map[api.Code]int{}
	for range 30000 {
		imports, all := r.Intn(4), r.Intn(5)
		if r.Intn(20) == 0 {
			imports, all = 18+r.Intn(4), 58+r.Intn(4)
		}
		words := []string{"use"}
		for _, k := range tokens(t, textOf(t, anyClient(r, imports, all))) {
			words = append(words, k.Text)
		}
		if len(words) > 1 {
			words = words[1:]
		}
		for range r.Intn(3) {
			i, j := r.Intn(len(words)), r.Intn(len(words))
			switch r.Intn(7) {
			case 0:
				words[i] = others[r.Intn(len(others))]
			case 1:
				words = slices.Insert(words, i, others[r.Intn(len(others))])
			case 2:
				words = append(slices.Delete(words, i, i+1), "use")
			case 3:
				words[i], words[j] = words[j], words[i]
			case 4:
				words = words[:i+1]
			case 5:
				words[i] = words[j]
			case 6:
				if b := slices.Index(words, "b2"); b >= 0 {
					words[b] = "a"
				}
			}
		}
		s := strings.Join(words, " ")
		if len(s) <= api.MaxText {
			told[check(t, s)]++
		}
	}
	for _, c := range []api.Code{0, api.ErrForm, api.ErrLarge, api.ErrTwice} {
		if told[c] < 20 {
			t.Errorf("error %d was told %d times", c, told[c])
		}
	}
}
