package syntax_test

import (
	"errors"
	"math"
	"math/rand"
	"reflect"
	"regexp"
	"slices"
	"strconv"
	"strings"
	"testing"
	"unsafe"

	"merlon/api"
	"merlon/expr"
	"merlon/kind"
	"merlon/lex"
	"merlon/sample"
	"merlon/syntax"
)

var (
	intT, textT, boolT = sample.Int(), sample.Text(), sample.Bool()

	list   = sample.List
	fn     = sample.Func
	local  = sample.Local
	open   = sample.Open
	record = sample.Record
	imp    = sample.Import
	opaque = sample.Opaque
	hidden = sample.Hidden
	alias  = sample.Alias
	val    = sample.Val
	module = sample.Module
	nested = sample.Nested
	wide   = sample.Wide
	sized  = sample.Sized
	isSpot = sample.IsSpot
)

func decls(l ...api.Decl) []api.Decl { return l }

// textOf writes a module by the chapter's words, whether it may be or not.
func textOf(t *testing.T, m api.Module) string {
	t.Helper()
	lines := []string{"module " + m.Name}
	for _, i := range m.Imports {
		lines = append(lines, strings.Join([]string{"import", i.Pkg, strconv.Itoa(i.Major), i.Mod, "as", i.As}, " "))
	}
	for _, d := range m.Decls {
		key := []string{"", "opaque ", "hidden ", "alias ", "val "}[d.Kind]
		between := []string{"", "", "", " = ", " : "}[d.Kind]
		text := ""
		if between != "" {
			var err error
			if text, err = kind.Print(d.Type); err != nil {
				t.Fatal(d, err)
			}
		}
		lines = append(lines, key+d.Name+between+text)
	}
	return strings.Join(lines, "\n") + "\n"
}

// Lists of no elements are told as nil, or as empty.

func sameDecl(a, b api.Decl) bool {
	untyped := reflect.DeepEqual(a.Type, api.Type{}) && reflect.DeepEqual(b.Type, api.Type{})
	return a.Kind == b.Kind && a.Name == b.Name && (untyped || kind.Same(a.Type, b.Type))
}

func sameModule(a, b api.Module) bool {
	return a.Name == b.Name && slices.Equal(a.Imports, b.Imports) && slices.EqualFunc(a.Decls, b.Decls, sameDecl)
}

func zero(m api.Module) bool { return m.Name == "" && len(m.Imports) == 0 && len(m.Decls) == 0 }

// brief is what is told of a module, which may be one that has no text.
func brief(m api.Module) string {
	s := strconv.Quote(m.Name) + " of " + strconv.Itoa(len(m.Imports)) + " imports and " + strconv.Itoa(len(m.Decls)) + " declarations"
	for _, i := range m.Imports[:min(5, len(m.Imports))] {
		s += ", import " + i.Pkg + " " + strconv.Itoa(i.Major) + " " + i.Mod + " as " + i.As
	}
	for _, d := range m.Decls[:min(5, len(m.Decls))] {
		text, err := kind.Print(d.Type)
		if err != nil {
			text = "none"
		}
		s += ", " + strconv.Itoa(d.Kind) + " " + d.Name + " " + text
	}
	return s
}

// wantMay holds a module that may be, its text, and that this is parsed as it.
func wantMay(t *testing.T, m api.Module) {
	t.Helper()
	if !syntax.May(m) {
		t.Errorf("May(%.200q) is false", textOf(t, m))
	}
	want := textOf(t, m)
	if got, err := syntax.Print(m); err != nil || got != want {
		t.Errorf("Print = %.200q, %v; want %.200q", got, err, want)
	}
	if len(want) > api.MaxText {
		wantLexLarge(t, want)
		return
	}
	wantParse(t, want, m)
}

// wantNot holds one that may not be.
func wantNot(t *testing.T, m api.Module) {
	t.Helper()
	if syntax.May(m) {
		t.Errorf("May(%s) is true", brief(m))
	}
	if got, err := syntax.Print(m); got != "" || err != api.ErrArg {
		t.Errorf("Print(%s) = %.200q, %v; want ErrArg itself", brief(m), got, err)
	}
}

func wantParse(t *testing.T, s string, want api.Module) {
	t.Helper()
	if got, err := syntax.Parse(s); err != nil || !sameModule(got, want) {
		t.Errorf("Parse(%.300q) = %s, %v; want %s", s, brief(got), err, brief(want))
	}
}

func wantLexLarge(t *testing.T, s string) {
	t.Helper()
	if got, err := syntax.Parse(s); err != api.ErrLarge || !zero(got) {
		t.Errorf("Parse of %d bytes = %s, %v; want lex's ErrLarge", len(s), brief(got), err)
	}
}

func wantSpot(t *testing.T, s string, code api.Code, at int) {
	t.Helper()
	if got, err := syntax.Parse(s); !isSpot(err, code, at) || !zero(got) {
		t.Errorf("Parse(%.300q) = %s, %v; want %v at %d", s, brief(got), err, code, at)
	}
}

// tokens are those of a text that lex takes.
func tokens(t *testing.T, s string) []api.Token {
	t.Helper()
	l, err := lex.Tokens(s)
	if err != nil {
		t.Fatalf("Tokens(%.60q): %v", s, err)
	}
	return l
}

// wantAmiss holds what is amiss in a text; whatever stands behind the token at fault.
func wantAmiss(t *testing.T, s string, code api.Code, at int) {
	t.Helper()
	wantSpot(t, s, code, at)
	l := tokens(t, s)
	if at == len(l) {
		return
	}
	for _, more := range []string{"", "module", "import", "opaque", "import p 1 q as r", "opaque T", "val f : Int", "T", "x", "9", ")", "= Int", ": Int", "alias A = {a: Int, a: Int}"} {
		wantSpot(t, lex.Join(l[:at+1])+" "+more, code, at)
	}
}

func wantForm(t *testing.T, s string, at int) {
	t.Helper()
	wantAmiss(t, s, api.ErrForm, at)
}

func TestExample(t *testing.T) {
	wantParse(t, "module m opaque T val f : (T) -> Int", module("m", nil, opaque("T"), val("f", fn(local("", "T"), intT))))
}

func TestText(t *testing.T) {
	m := module("m",
		[]api.Import{imp("p", 1, "q", "r"), imp("json", 20, "reader", "json")},
		opaque("T"), hidden("U"), alias("A", record("a b", local("json", "Value"), intT)), val("f", fn(local("", "T"), list(open("p", 1, "q", "X")), boolT)), val("x", textT))
	const want = `module m
import p 1 q as r
import json 20 reader as json
opaque T
hidden U
alias A = {a: json.Value, b: Int}
val f : (T, List(<p 1 q X>)) -> Bool
val x : Text
`
	if got, err := syntax.Print(m); got != want || err != nil {
		t.Errorf("Print = %q, %v", got, err)
	}
	wantMay(t, m)
	for text, m := range map[string]api.Module{
		"module m\n": module("m", nil),
		"module list\nimport p 999999999 q as r\n": module("list", []api.Import{imp("p", api.MaxPart, "q", "r")}),
		"module m\nopaque T\n":                     module("m", nil, opaque("T")),
		"module m\nhidden T\n":                     module("m", nil, hidden("T")),
		"module m\nalias T = Int\n":                module("m", nil, alias("T", intT)),
		"module m\nval t : Int\n":                  module("m", nil, val("t", intT)),
		"module m\nval t : [A: {}]\nopaque T\n":    module("m", nil, val("t", api.Type{Kind: api.Variant, Names: []string{"A"}, Subs: []api.Type{record("")}}), opaque("T")),
	} {
		if got, err := syntax.Print(m); got != text || err != nil {
			t.Errorf("Print(%v) = %q, %v; want %q", m, got, err, text)
		}
		wantMay(t, m)
	}
}

// Declarations stand in an order of their own; nothing is asked of names that are there twice, or nowhere.
func TestOrder(t *testing.T) {
	wantMay(t, module("m", nil, val("b", intT), val("a", intT), opaque("B"), hidden("A"), alias("C", intT), opaque("A")))
	wantMay(t, module("m", nil, val("a", intT), val("a", textT), opaque("A"), hidden("A"), alias("A", local("", "A"))))
	wantMay(t, module("m", []api.Import{imp("q", 2, "n", "a"), imp("p", 1, "m", "a"), imp("p", 1, "m", "a"), imp("m", 1, "m", "m")}, val("a", local("nowhere", "T"))))
	wantParse(t, "module m val b : Int opaque B val a : Int opaque A", module("m", nil, val("b", intT), opaque("B"), val("a", intT), opaque("A")))
}

// wantNames holds what may be a name, by the module that has it, and at which token it stands.
func wantNames(t *testing.T, small bool, at int, with func(string) api.Module) {
	t.Helper()
	good, bad := sample.GoodGreat(), sample.BadGreat
	if small {
		good, bad = sample.GoodSmall(), sample.BadSmall
	}
	for _, s := range good {
		wantMay(t, with(s))
	}
	words, others := bad()
	for _, s := range words {
		wantNot(t, with(s))
		wantForm(t, textOf(t, with(s)), at)
	}
	for _, s := range others {
		wantNot(t, with(s))
	}
}

func TestNames(t *testing.T) {
	r, x := []api.Import{imp("p", 1, "q", "r")}, opaque("X")
	wantNames(t, true, 1, func(s string) api.Module { return module(s, nil) })
	wantNames(t, true, 1, func(s string) api.Module { return module(s, r, x) })
	wantNames(t, true, 3, func(s string) api.Module { return module("m", []api.Import{imp(s, 1, "q", "r")}) })
	wantNames(t, true, 5, func(s string) api.Module { return module("m", []api.Import{imp("p", 1, s, "r")}) })
	wantNames(t, true, 7, func(s string) api.Module { return module("m", []api.Import{imp("p", 1, "q", s)}, x) })
	wantNames(t, true, 9, func(s string) api.Module { return module("m", append(r, imp(s, 1, "q", "r"))) })
	wantNames(t, false, 3, func(s string) api.Module { return module("m", nil, opaque(s)) })
	wantNames(t, false, 3, func(s string) api.Module { return module("m", nil, hidden(s), x) })
	wantNames(t, false, 3, func(s string) api.Module { return module("m", nil, alias(s, intT)) })
	wantNames(t, false, 9, func(s string) api.Module { return module("m", r, opaque(s)) })
	wantNames(t, true, 3, func(s string) api.Module { return module("m", nil, val(s, intT)) })
	wantNames(t, true, 5, func(s string) api.Module { return module("m", nil, x, val(s, intT)) })
}

func TestMajors(t *testing.T) {
	with := func(n int) api.Module { return module("m", []api.Import{imp("p", n, "q", "r")}, opaque("T")) }
	for _, n := range []int{1, 2, 9, 10, 11, 99, 100, 255, 256, 65536, 100000000, api.MaxPart - 1, api.MaxPart} {
		wantMay(t, with(n))
		wantForm(t, "module m import p 0"+strconv.Itoa(n)+" q as r", 4)
	}
	for _, n := range []int{0, -1, -2, api.MaxPart + 1, 1 << 31, 1<<32 + 1, math.MaxInt, math.MinInt, math.MinInt + 1, -api.MaxPart} {
		wantNot(t, with(n))
	}
	for _, s := range []string{"0", "00", "01", "1000000000", "4294967297", "9223372036854775808", "18446744073709551617", strings.Repeat("9", 300), strings.Repeat("0", 19000) + "1", "a", "A", "as", "-> 1", ". 1", ".. 1"} {
		wantForm(t, "module m import p "+s+" q as r", 4)
	}
	wantForm(t, "module m import p 1.0.0 q as r", 5)
	wantForm(t, "module m import p 1 2 q as r", 5)
}

func TestKinds(t *testing.T) {
	for _, k := range []int{0, -1, 5, 6, 7, 257, 1<<32 + 1, 1<<32 + 4, math.MaxInt, math.MinInt} {
		for _, name := range []string{"T", "t", ""} {
			wantNot(t, module("m", nil, api.Decl{Kind: k, Name: name}))
			wantNot(t, module("m", nil, api.Decl{Kind: k, Name: name, Type: intT}))
			wantNot(t, module("m", nil, opaque("X"), api.Decl{Kind: k, Name: name, Type: intT}))
		}
	}
}

// An Opaque, and a Hidden, have the zero type; nil and empty lists are alike.
func TestUntyped(t *testing.T) {
	for _, k := range []int{api.Opaque, api.Hidden} {
		for _, o := range []api.Type{
			{Kind: api.Int}, {Kind: -1}, {Pkg: "p"}, {Pkg: " "}, {Major: 1}, {Major: -1}, {Major: 1 << 32}, {Mod: "m"}, {Name: "T"}, {Names: []string{""}}, {Names: []string{"a"}}, {Subs: []api.Type{{}}}, {Subs: []api.Type{intT}},
			list(intT), local("", "T"), record(""), fn(intT), open("p", 1, "m", "T"),
		} {
			wantNot(t, module("m", nil, api.Decl{Kind: k, Name: "T", Type: o}))
			wantNot(t, module("m", nil, opaque("X"), api.Decl{Kind: k, Name: "T", Type: o}, opaque("Y")))
		}
		for _, o := range []api.Type{{}, {Names: []string{}}, {Subs: []api.Type{}}, {Names: []string{}, Subs: []api.Type{}}, {Names: make([]string, 0, 3)}} {
			m := module("m", nil, api.Decl{Kind: k, Name: "T", Type: o})
			text, err := syntax.Print(m)
			if !syntax.May(m) || err != nil || text != "module m\n"+[]string{"", "opaque", "hidden"}[k]+" T\n" {
				t.Errorf("%v: %v, %q, %v", o, syntax.May(m), text, err)
			}
		}
	}
	for _, key := range []string{"opaque", "hidden"} {
		wantForm(t, "module m "+key+" T = Int", 4)
		wantForm(t, "module m "+key+" T : Int", 4)
		wantForm(t, "module m "+key+" T Int", 4)
	}
}

func TestTypes(t *testing.T) {
	good := []api.Type{intT, textT, boolT, nested(31, intT), sized(500, intT), sized(499, intT), wide(20, intT), local("", "T"), local("m", "T"), record(""), record("a b", intT, list(boolT)), open("p", api.MaxPart, "m", "T"), fn(intT)}
	bad := []api.Type{{}, {Kind: -1}, {Kind: 10}, {Kind: api.Int, Name: "T"}, list(api.Type{}), nested(32, intT), sized(501, intT), wide(21, intT), fn(), record("b a", intT, intT), record("a", intT, intT), local("", "t"), local("M", "T"), open("p", 0, "m", "T"), {Kind: api.Variant}, {Kind: api.List}}
	for _, o := range good {
		wantMay(t, module("m", nil, alias("A", o)))
		wantMay(t, module("m", nil, val("a", o)))
		wantMay(t, module("m", nil, opaque("T"), val("a", o), alias("B", intT)))
	}
	for _, o := range bad {
		wantNot(t, module("m", nil, alias("A", o)))
		wantNot(t, module("m", nil, val("a", o)))
		wantNot(t, module("m", nil, opaque("T"), val("b", intT), val("a", o), alias("B", intT)))
	}
	// Lists of no elements in a type are alike, too.
	m := module("m", nil, val("a", api.Type{Kind: api.Int, Names: []string{}, Subs: []api.Type{}}))
	if text, err := syntax.Print(m); !syntax.May(m) || text != "module m\nval a : Int\n" || err != nil {
		t.Error(text, err)
	}
}

// imports and declarations of so many.

func manyImports(n int) []api.Import {
	l := []api.Import{}
	for i := range n {
		l = append(l, imp("p"+strconv.Itoa(i), 1+i, "m", "a"+strconv.Itoa(i)))
	}
	return l
}

func manyDecls(n int) []api.Decl {
	l := decls()
	for i := range n {
		s := strconv.Itoa(i)
		l = append(l, decls(opaque("O"+s), hidden("H"+s), alias("A"+s, list(local("", "T"))), val("v"+s, fn(intT, textT)))[(i+n)%4])
	}
	return l
}

func TestHowMany(t *testing.T) {
	for n := range 25 {
		m := module("m", manyImports(n), opaque("T"))
		if n <= 20 {
			wantMay(t, m)
			wantMay(t, module("m", manyImports(n)))
			continue
		}
		wantNot(t, m)
		wantAmiss(t, textOf(t, m), api.ErrLarge, 2+6*20)
	}
	for n := range 70 {
		m := module("m", manyImports(n%21), manyDecls(n)...)
		if n <= 60 {
			wantMay(t, m)
			continue
		}
		wantNot(t, m)
		ahead := tokens(t, textOf(t, module("m", m.Imports, m.Decls[:60]...)))
		wantAmiss(t, textOf(t, m), api.ErrLarge, len(ahead))
	}
	for _, n := range []int{256, 257, 276, 300, 316, 65536 + 5} {
		wantNot(t, module("m", slices.Repeat(manyImports(1), n)))
		wantNot(t, module("m", nil, slices.Repeat(decls(opaque("T")), n)...))
	}
	wantMay(t, module("m", manyImports(20), manyDecls(60)...))
}

// Each place among many counts.
func TestEachPlace(t *testing.T) {
	for i := range 20 {
		m := module("m", manyImports(20), manyDecls(60)...)
		m.Imports[i].Major = 0
		wantNot(t, m)
		wantForm(t, textOf(t, m), 2+6*i+2)
		m.Imports[i] = imp("p", 1, "q", "Q")
		wantNot(t, m)
		wantForm(t, textOf(t, m), 2+6*i+5)
	}
	for i := range 60 {
		m := module("m", manyImports(20), manyDecls(60)...)
		m.Decls[i] = val("V", intT)
		wantNot(t, m)
		ahead := len(tokens(t, textOf(t, module("m", m.Imports, m.Decls[:i]...))))
		wantForm(t, textOf(t, m), ahead+1)
		m.Decls[i] = val("v", api.Type{})
		wantNot(t, m)
		m.Decls[i] = opaque("o")
		wantNot(t, m)
		wantForm(t, textOf(t, m), ahead+1)
	}
}

// Tokens alone count, not what stands between them.
func TestBetween(t *testing.T) {
	want := module("m", []api.Import{imp("p", 1, "q", "r")}, opaque("T"), alias("A", list(intT)), val("f", fn(local("r", "T"), intT)))
	wantParse(t, "module m import p 1 q as r opaque T alias A = List(Int) val f : (r.T) -> Int", want)
	wantParse(t, "\n\nmodule\nm\n\timport p\n1\nq as # a name\nr opaque # a type\n\n T alias A=List(Int)val f:(r.T)->Int# end", want)
	wantParse(t, "# module n\nmodule m import p 1q as r opaque T alias A=List ( Int ) val f : ( r . T ) -> Int\n\n", want)
	wantParse(t, "module m val f:Int opaque T", module("m", nil, val("f", intT), opaque("T")))
	wantParse(t, "module m alias A = {b: Int, a: m.T} opaque T", module("m", nil, alias("A", record("a b", local("m", "T"), intT)), opaque("T")))
	wantForm(t, "modulem", 0)
	wantForm(t, "module m opaqueT", 2)
	wantForm(t, "module m importp 1 q as r", 2)
	wantForm(t, "module m import p1 q as r", 4)
	wantForm(t, "module m import p 1 qas r", 6)
}

func TestForm(t *testing.T) {
	wantForm(t, "", 0)
	wantForm(t, " # module m", 0)
	wantForm(t, "module", 1)
	wantForm(t, "m", 0)
	wantForm(t, "Module m", 0)
	wantForm(t, "package m", 0)
	wantForm(t, "module module m", 1)
	for _, s := range []string{"module", "m", "T", "1", "0", "as", "use", "is", "dep", "package", "version", "Int", ".", ",", ":", "=", "->", "..", "(", ")", "{", "}", "[", "]", "<", ">", "Opaque T", "opaques", "vals"} {
		wantForm(t, "module m "+s, 2)
		wantForm(t, "module m import p 1 q as r "+s, 8)
		wantForm(t, "module m opaque T "+s, 4)
		wantForm(t, "module m import p 1 q as r hidden T "+s, 10)
		if s != "." {
			wantForm(t, "module m alias T = Int "+s, 6)
			wantForm(t, "module m val t : Int "+s, 6)
		}
	}
	// Imports stand ahead of all declarations.
	for i, s := range []string{"opaque T", "hidden T", "alias A = Int", "val a : Int"} {
		at := []int{4, 4, 6, 6}[i]
		wantForm(t, "module m "+s+" import p 1 q as r", at)
		wantForm(t, "module m import p 1 q as r "+s+" import p 1 q as r", at+6)
	}
}

// Each word of a line left out, told twice, or another one; and the text cut off there.
func TestFormOfLines(t *testing.T) {
	for _, ahead := range []string{"module m", "module m import p 1 q as r", "module m import a 12 b as c import d 3 e as f"} {
		for _, line := range []string{"import p 1 q as r", "opaque T", "hidden T", "alias T = U", "val t : U"} {
			words := append(strings.Fields(ahead), strings.Fields(line)...)
			first := len(strings.Fields(ahead))
			for i := first; i < len(words); i++ {
				if i > first {
					wantForm(t, strings.Join(words[:i], " "), i)
				}
				for _, other := range strings.Fields("m T 1 0 as import opaque val = : . , -> .. ( ) { <") {
					l := slices.Clone(words[:i+1])
					l[i] = other
					check(t, strings.Join(l, " "))
					check(t, strings.Join(append(l, words[i:]...), " "))
					check(t, strings.Join(append(l, words[i+1:]...), " "))
				}
				check(t, strings.Join(slices.Delete(slices.Clone(words), i, i+1), " "))
			}
		}
	}
	wantForm(t, "module m import p 1 q r", 6)
	wantForm(t, "module m import p q as r", 4)
	wantForm(t, "module m import p 1 q As r", 6)
	wantForm(t, "module m import p 1 as r", 5)
	wantForm(t, "module m import p 1 q as", 7)
	wantForm(t, "module m alias A : Int", 4)
	wantForm(t, "module m alias A Int", 4)
	wantForm(t, "module m alias A =", 5)
	wantForm(t, "module m val f = Int", 4)
	wantForm(t, "module m val f Int", 4)
	wantForm(t, "module m val f :", 5)
	wantForm(t, "module m val f : val g : Int", 5)
	wantForm(t, "module m alias A = opaque T", 5)
	wantForm(t, "module m alias m.A = Int", 3)
	wantForm(t, "module m opaque m.T", 3)
	wantForm(t, "module m opaque T, U", 4)
}

// expr tells what is amiss of a type, at the token's number in the whole.
func TestExprErrors(t *testing.T) {
	for i, ahead := range []string{"module m alias A =", "module m val f :", "module m import p 1 q as r opaque T val f :", "module m val g : Int alias A ="} {
		n := []int{5, 5, 13, 9}[i]
		wantAmiss(t, ahead+" {a: Int, a: Int}", api.ErrTwice, n+5)
		wantAmiss(t, ahead+" [A: Int, B: Int, A: Int] opaque T", api.ErrTwice, n+9)
		wantForm(t, ahead+" List() opaque T", n+2)
		wantForm(t, ahead+" (Int) opaque T", n+3)
		wantForm(t, ahead+" <p 01 m T>", n+2)
		wantForm(t, ahead+" m opaque T", n+1)
		wantForm(t, ahead+" m", n+1)
		wantForm(t, ahead+" {a: Int", n+4)
		wantForm(t, ahead+" []", n+1)
		wantAmiss(t, ahead+strings.Repeat(" List (", 32)+" Int", api.ErrLarge, n+64)
		ints := strings.Repeat("Int, ", 20)
		wantAmiss(t, ahead+" ("+ints+"Int) -> Int", api.ErrLarge, n+41)
		l := tokens(t, textOf(t, module("m", nil, val("f", sized(500, intT)))))[5:]
		wantParse(t, ahead+" "+lex.Join(l), parsed(t, ahead, sized(500, intT)))
		wantAmiss(t, ahead+" () -> "+lex.Join(l), api.ErrLarge, n+3+len(l)-1)
		// The limits are of one type alone.
		wantParse(t, ahead+" "+lex.Join(l)+" val z : "+lex.Join(l), withVal(parsed(t, ahead, sized(500, intT)), "z", sized(500, intT)))
	}
}

// parsed is the module of a text that ends with a type.
func parsed(t *testing.T, ahead string, o api.Type) api.Module {
	t.Helper()
	m, err := syntax.Parse(ahead + " Int")
	if err != nil {
		t.Fatal(ahead, err)
	}
	m.Decls[len(m.Decls)-1].Type = o
	return m
}

func withVal(m api.Module, name string, o api.Type) api.Module {
	m.Decls = append(m.Decls, val(name, o))
	return m
}

// From the left on: what stands behind the first thing amiss is not looked at.
func TestFirst(t *testing.T) {
	wantForm(t, "module m opaque val alias A = {a: Int, a: Int}", 3)
	wantAmiss(t, "module m alias A = {a: Int, a: Int} opaque val", api.ErrTwice, 10)
	twenty := textOf(t, module("m", manyImports(20)))
	wantAmiss(t, twenty+"import", api.ErrLarge, 122)
	wantAmiss(t, twenty+"import import", api.ErrLarge, 122)
	wantAmiss(t, twenty+"import p 1 q as r import", api.ErrLarge, 122)
	wantForm(t, twenty+"opaque T import p 1 q as r", 124)
	wantForm(t, twenty+"as", 122)
	wantParse(t, twenty+"opaque T", module("m", manyImports(20), opaque("T")))
	wantForm(t, textOf(t, module("m", manyImports(19)))+"import p 0 q as r import p 1 q as r", 118)
	sixty := textOf(t, module("m", nil, slices.Repeat(decls(opaque("T")), 60)...))
	for _, key := range []string{"opaque", "hidden", "alias", "val"} {
		wantAmiss(t, sixty+key, api.ErrLarge, 122)
		wantAmiss(t, sixty+key+" "+key, api.ErrLarge, 122)
		wantAmiss(t, sixty+key+" 1", api.ErrLarge, 122)
	}
	for _, s := range []string{"import", "import p 1 q as r", "module", "as", "T", "use", "1", ":"} {
		wantForm(t, sixty+s, 122)
	}
	// Imports are no declarations.
	both := textOf(t, module("m", manyImports(20), slices.Repeat(decls(hidden("T")), 60)...))
	wantParse(t, both, module("m", manyImports(20), slices.Repeat(decls(hidden("T")), 60)...))
	wantAmiss(t, both+"hidden T", api.ErrLarge, 242)
	wantForm(t, both+"import p 1 q as r", 242)
}

func TestLexErrors(t *testing.T) {
	for s, at := range map[string]int{"$": 0, "module m $": 9, "module m; opaque T": 8, "module m val f : Int - > Int": 21, "opaque $": 7, "module m\r\n": 8, "module m\u00e9": 8, "module m opaque \"T\"": 16, "1 2 3 %": 6, "module m opaque t /": 18} {
		if got, err := syntax.Parse(s); !isSpot(err, api.ErrForm, at) || !zero(got) {
			t.Errorf("Parse(%q) = %v, %v; want lex's ErrForm at byte %d", s, got, err, at)
		}
	}
	full := "module m" + strings.Repeat(" ", api.MaxText-8)
	wantParse(t, full, module("m", nil))
	for _, s := range []string{full + " ", " " + full, full + "$", "$" + full, strings.Repeat("$", 20001), strings.Repeat("module m ", 1<<18)} {
		wantLexLarge(t, s)
	}
}

// What is told is told also of the longest texts.
func TestHuge(t *testing.T) {
	for s, at := range map[string]int{"module ": 1, "module m ": 2, "( ": 0} {
		wantSpot(t, strings.Repeat(s, api.MaxText/len(s)), api.ErrForm, at)
	}
	for s, at := range map[string]int{"import p 1 q as r ": 2 + 120, "opaque T ": 2 + 120, "val f:Int ": 2 + 240, "alias A=List(Int) ": 2 + 60*7} {
		wantSpot(t, "module m "+strings.Repeat(s, 1000), api.ErrLarge, at)
	}
	wantSpot(t, "module m val f : "+strings.Repeat("(", 19000), api.ErrLarge, 5+32)
	wantSpot(t, "module m val f : "+strings.Repeat("{a:", 6000), api.ErrLarge, 5+96)
	wantSpot(t, "module m import "+strings.Repeat("p ", 9000), api.ErrForm, 4)
}

// P1: types without end, and modules of many of them.
func TestEnds(t *testing.T) {
	in := []api.Type{{Kind: api.List}}
	in[0].Subs = in
	both := []api.Type{{Kind: api.Func}, {Kind: api.Func}}
	both[0].Subs, both[1].Subs = both, both
	shared := intT
	for range 40 {
		shared = fn(shared, shared)
	}
	for _, o := range []api.Type{in[0], both[0], shared, {Subs: in}, {Kind: api.Opaque, Subs: both}} {
		for n := range 61 {
			l := manyDecls(n)
			for i := range l {
				l[i].Type = o
			}
			if n > 0 {
				wantNot(t, module("m", manyImports(3), l...))
			}
		}
		wantNot(t, module("m", nil, slices.Repeat(decls(val("f", o)), 100000)...))
		wantNot(t, module("", nil, val("f", o)))
	}
	// 60 of the largest types: a long text, and an end.
	wantMay(t, module("m", manyImports(20), slices.Repeat(decls(val("f", sized(500, intT))), 60)...))
	wantNot(t, api.Module{})
}

// P6.3: what is handed in stays as it is, what lies behind it in its memory too.
func TestStays(t *testing.T) {
	full := module("m", manyImports(8), manyDecls(30)...)
	full.Decls[3] = alias("A", record("a b c", fn(intT, textT), list(local("m", "T")), open("p", 1, "m", "T")))
	was := sample.CloneModule(full)
	for n := range 9 {
		m := full
		m.Imports = full.Imports[:n]
		m.Decls = full.Decls[:3*n]
		syntax.May(m)
		syntax.Print(m)
	}
	bad := sample.CloneModule(full)
	bad.Decls[29].Type = list(api.Type{})
	wasBad := sample.CloneModule(bad)
	wantNot(t, bad)
	if !reflect.DeepEqual(full, was) || !reflect.DeepEqual(bad, wasBad) {
		t.Error("a module was changed")
	}
}

// shares tells whether a piece, of one byte at least, lies in the memory of a text.
func shares(s, piece string) bool {
	from := uintptr(unsafe.Pointer(unsafe.StringData(s)))
	at := uintptr(unsafe.Pointer(unsafe.StringData(piece)))
	return from <= at && at < from+uintptr(len(s))
}

// texts are all texts of a module.
func texts(m api.Module) []string {
	l := []string{m.Name}
	for _, i := range m.Imports {
		l = append(l, i.Pkg, i.Mod, i.As)
	}
	for _, d := range m.Decls {
		l = append(append(l, d.Name), sample.TextsOfType(d.Type)...)
	}
	return slices.DeleteFunc(l, func(s string) bool { return s == "" })
}

const long = "module mm import pp 1 qq as rr import ss 22 tt as uu opaque Tt hidden Uu alias Aa = {bb: Int, aa: rr.Tt} val ff : (<pp 1 qq Xx>, Tt) -> [Bb: {}, Aa: List({cc: Text, bb: Bool})] val gg : {bb: Int, aa: rr.Tt}"

func TestNewTexts(t *testing.T) {
	s := strings.Clone(long)
	m, err := syntax.Parse(s)
	if err != nil || len(texts(m)) != 28 {
		t.Fatal(len(texts(m)), err)
	}
	for _, name := range texts(m) {
		if shares(s, name) {
			t.Errorf("%s lies in the text", name)
		}
	}
	text, err := syntax.Print(m)
	for _, name := range texts(m) {
		if err != nil || shares(text, name) || shares(name, text) {
			t.Errorf("%s lies in what was printed", name)
		}
	}
}

// No two lists share memory: not of two answers, and not of one.
func TestNewLists(t *testing.T) {
	one, errOne := syntax.Parse(long)
	two, errTwo := syntax.Parse(long)
	was := sample.CloneModule(two)
	if errOne != nil || errTwo != nil {
		t.Fatal(errOne, errTwo)
	}
	for i := range one.Decls {
		other, _ := syntax.Parse(long)
		sample.SpoilType(other.Decls[i].Type)
		other.Decls[i] = was.Decls[i]
		if !sameModule(other, was) {
			t.Errorf("the type of declaration %d shares a list with another one", i)
		}
	}
	for _, d := range one.Decls {
		sample.SpoilType(d.Type)
	}
	for i := range one.Decls[:cap(one.Decls)] {
		one.Decls[:cap(one.Decls)][i] = api.Decl{Kind: -1}
	}
	for i := range one.Imports[:cap(one.Imports)] {
		one.Imports[:cap(one.Imports)][i] = api.Import{Major: -1}
	}
	if !sameModule(two, was) {
		t.Error("two answers share a list")
	}
}

var (
	smallName = regexp.MustCompile(`\A[a-z][a-z0-9]{0,19}\z`)
	greatName = regexp.MustCompile(`\A[A-Z][A-Za-z0-9]{0,19}\z`)
	smallNone = regexp.MustCompile(`\A(as|alias|dep|hidden|import|is|module|opaque|package|use|val|version)\z`)
	greatNone = regexp.MustCompile(`\A(Int|Text|Bool|List)\z`)
	number    = regexp.MustCompile(`\A[1-9][0-9]{0,8}\z`)
)

// fits tells whether a word may stand where a line's pattern has that one.
func fits(pattern, word string) bool {
	switch pattern {
	case "SMALL":
		return smallName.MatchString(word) && !smallNone.MatchString(word)
	case "GREAT":
		return greatName.MatchString(word) && !greatNone.MatchString(word)
	case "NUMBER":
		return number.MatchString(word)
	}
	return word == pattern
}

// patterns are those of the lines, each by its first word.
var patterns = map[string]string{
	"module": "module SMALL",
	"import": "import SMALL NUMBER SMALL as SMALL",
	"opaque": "opaque GREAT",
	"hidden": "hidden GREAT",
	"alias":  "alias GREAT = TYPE",
	"val":    "val SMALL : TYPE",
}

// follow are the first words of the lines that may stand behind one of that first word.
var follow = map[string]string{
	"":       "module",
	"module": "import opaque hidden alias val",
	"import": "import opaque hidden alias val",
	"opaque": "opaque hidden alias val",
	"hidden": "opaque hidden alias val",
	"alias":  "opaque hidden alias val",
	"val":    "opaque hidden alias val",
}

// model reads the chapter line by line: the module, or what is amiss, and where.
func model(l []api.Token) (m api.Module, code api.Code, at int) {
	i, key := 0, ""
	word := func(i int) string {
		if i < len(l) {
			return l[i].Text
		}
		return ""
	}
	for key == "" || i < len(l) {
		next := word(i)
		switch {
		case !slices.Contains(strings.Fields(follow[key]), next):
			return api.Module{}, api.ErrForm, i
		case next == "import" && len(m.Imports) == 20, next != "import" && len(m.Decls) == 60:
			return api.Module{}, api.ErrLarge, i
		}
		key = next
		var words []string
		var o api.Type
		for _, p := range strings.Fields(patterns[key]) {
			if p == "TYPE" {
				was, end, err := expr.At(l, i)
				var s *api.Spot
				if errors.As(err, &s) {
					return api.Module{}, s.Err.(api.Code), s.At
				}
				o, i = was, end
				continue
			}
			if !fits(p, word(i)) {
				return api.Module{}, api.ErrForm, i
			}
			words = append(words, word(i))
			i++
		}
		switch key {
		case "module":
			m.Name = words[1]
		case "import":
			n, _ := strconv.Atoi(words[2])
			m.Imports = append(m.Imports, imp(words[1], n, words[3], words[5]))
		default:
			k := slices.Index([]string{"opaque", "hidden", "alias", "val"}, key) + 1
			m.Decls = append(m.Decls, api.Decl{Kind: k, Name: words[1], Type: o})
		}
	}
	return m, 0, 0
}

// check holds a text, which lex takes, against the model.
func check(t *testing.T, s string) api.Code {
	t.Helper()
	m, code, at := model(tokens(t, s))
	if code != 0 {
		wantSpot(t, s, code, at)
		return code
	}
	wantParse(t, s, m)
	if !syntax.May(m) {
		t.Errorf("May of what %.300q is parsed as is false", s)
	}
	return 0
}

// All short texts.
func TestAllShort(t *testing.T) {
	for _, words := range []struct {
		ahead, all string
		most       int
	}{
		{"", "module m T 1 import as opaque val = : Int", 4},
		{"module m", "import p 1 as opaque T", 6},
		{"module m", "opaque hidden alias val T t = : Int", 5},
		{"module m import p 1 q as r", "import opaque p 1 q as T", 4},
		{"module m opaque T", "import opaque val T t : {}", 5},
		{"module m val t : m", "opaque val T t : . Int module", 5},
	} {
		found := 0
		var walk func(s string, left int)
		walk = func(s string, left int) {
			if check(t, s) == 0 {
				found++
			}
			if left == 0 {
				return
			}
			for _, w := range strings.Fields(words.all) {
				walk(s+" "+w, left-1)
			}
		}
		walk(words.ahead, words.most)
		if found == 0 {
			t.Errorf("no modules of %s", words.all)
		}
	}
}

// anyModule is one that may be, the same ones at each run.
func anyModule(r *rand.Rand, imports, all int) api.Module {
	smalls, greats := strings.Fields("a b m x1 list json aa p q r"), strings.Fields("A B T U X1 Some None AA Aa")
	small := func() string { return smalls[r.Intn(len(smalls))] }
	great := func() string { return greats[r.Intn(len(greats))] }
	m := module(small(), nil)
	for range imports {
		m.Imports = append(m.Imports, imp(small(), 1+r.Intn(1000), small(), small()))
	}
	for range all {
		o := sample.AnyType(r.Intn, 1+r.Intn(4))
		m.Decls = append(m.Decls, decls(opaque(great()), hidden(great()), alias(great(), o), val(small(), o))[r.Intn(4)])
	}
	return m
}

// P6.4: a module's text is parsed as it.
func TestPrintedIsParsed(t *testing.T) {
	r := rand.New(rand.NewSource(6))
	for range 3000 {
		m := anyModule(r, r.Intn(21), r.Intn(61))
		wantMay(t, m)
		text, _ := syntax.Print(m)
		got, err := syntax.Parse(text)
		if len(text) > api.MaxText {
			continue
		}
		if again, _ := syntax.Print(got); err != nil || again != text {
			t.Errorf("%.300q is printed as %.300q", text, again)
		}
	}
}

// A text of just MaxText bytes is parsed, one of a byte more is not.
func TestLongest(t *testing.T) {
	m := module("m", manyImports(20))
	for len(textOf(t, m)) < api.MaxText-500 {
		m.Decls = append(m.Decls, val("f", wide(20, open("ppppp", 1, "mmmmm", "T"))))
	}
	for i := range m.Imports {
		left := api.MaxText - len(textOf(t, m))
		m.Imports[i].Pkg += strings.Repeat("p", min(left, 17))
		left = api.MaxText - len(textOf(t, m))
		m.Imports[i].As += strings.Repeat("a", min(left, 17))
	}
	if n := len(textOf(t, m)); n != api.MaxText {
		t.Fatal(n)
	}
	wantMay(t, m)
	m.Name = "mm"
	wantMay(t, m)
	wantLexLarge(t, textOf(t, m))
}

// Texts of modules with one or two things changed.
func TestManyTexts(t *testing.T) {
	r := rand.New(rand.NewSource(66))
	others := strings.Fields("module import opaque hidden alias val as use is m T Int 1 0 01 1000000000 = : . .. , -> ( ) { } [ ] < > List aB " + strings.Repeat("a", 21) + " " + strings.Repeat("A", 21))
	told := map[api.Code]int{}
	for range 30000 {
		imports, all := r.Intn(4), r.Intn(5)
		if r.Intn(20) == 0 {
			imports, all = 18+r.Intn(4), 58+r.Intn(4)
		}
		var words []string
		for _, k := range tokens(t, textOf(t, anyModule(r, imports, all))) {
			words = append(words, k.Text)
		}
		for range r.Intn(3) {
			i, j := r.Intn(len(words)), r.Intn(len(words))
			switch r.Intn(7) {
			case 0:
				words[i] = others[r.Intn(len(others))]
			case 1:
				words = slices.Insert(words, i, others[r.Intn(len(others))])
			case 2:
				words = append(slices.Delete(words, i, i+1), "val")
			case 3:
				words[i], words[j] = words[j], words[i]
			case 4:
				words = words[:i+1]
			case 5:
				words[i] = words[j]
			case 6:
				if b := slices.Index(words, "b2"); b >= 0 {
					words[b] = "a"
				}
			}
		}
		s := strings.Join(words, " ")
		if len(s) <= api.MaxText {
			told[check(t, s)]++
		}
	}
	for _, c := range []api.Code{0, api.ErrForm, api.ErrLarge, api.ErrTwice} {
		if told[c] < 20 {
			t.Errorf("error %d was told %d times", c, told[c])
		}
	}
}
