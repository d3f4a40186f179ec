package scope_test

import (
	"errors"
	"math/rand"
	"reflect"
	"slices"
	"strconv"
	"strings"
	"testing"
	"unsafe"

	"merlon/api"
	"merlon/expr"
	"merlon/ident"
	"merlon/kind"
	"merlon/lex"
	"merlon/sample"
	"merlon/scope"
	"merlon/syntax"
)

// module is the one of a text without its first two words.
func module(t *testing.T, s string) api.Module {
	t.Helper()
	m, err := syntax.Parse("module m " + s)
	if err != nil {
		t.Fatalf("Parse(%.300q): %v", s, err)
	}
	return m
}

func typed(t *testing.T, s string) api.Type {
	t.Helper()
	o, err := expr.Parse(s)
	if err != nil {
		t.Fatalf("Parse(%.300q): %v", s, err)
	}
	return o
}

func textOf(m api.Module) string {
	s, err := syntax.Print(m)
	if err != nil {
		return "one of " + strconv.Itoa(len(m.Imports)) + " imports and " + strconv.Itoa(len(m.Decls)) + " declarations, that may not be"
	}
	return strings.ReplaceAll(s, "\n", " ")
}

// told is what Check told, as a code and a place: 0 is nil, and ErrArg itself is at -1.
func told(t *testing.T, m api.Module) (api.Code, int) {
	t.Helper()
	err := scope.Check(m)
	if err == nil {
		return 0, -1
	}
	if err == api.ErrArg {
		return api.ErrArg, -1
	}
	var s *api.Spot
	if !errors.As(err, &s) || !sample.IsSpot(err, s.Err.(api.Code), s.At) {
		t.Fatalf("Check(%s) = %v; want nil, ErrArg itself or a Spot", textOf(m), err)
	}
	return s.Err.(api.Code), s.At
}

func wantFault(t *testing.T, m api.Module, code api.Code, at int) {
	t.Helper()
	if gotCode, gotAt := told(t, m); gotCode != code || gotAt != at {
		t.Errorf("Check(%.400s) = %d at %d; want %d at %d", textOf(m), gotCode, gotAt, code, at)
	}
}

// wantCheck holds a module's text, and its second reading, too.
func wantCheck(t *testing.T, s string, code api.Code, at int) {
	t.Helper()
	m := module(t, s)
	wantFault(t, m, code, at)
	hold(t, m)
}

func wantNil(t *testing.T, s string) {
	t.Helper()
	wantCheck(t, s, 0, -1)
}

func wantNames(t *testing.T, m api.Module, o api.Type, want []string) {
	t.Helper()
	if got := scope.Mentions(m, o); !slices.Equal(got, want) {
		text, _ := kind.Print(o)
		t.Errorf("Mentions(%.400s, %.100s) = %v; want %v", textOf(m), text, got, want)
	}
}

// wantMentions holds what a type mentions in a module of that text.
func wantMentions(t *testing.T, s, o, want string) {
	t.Helper()
	m := module(t, s)
	wantNames(t, m, typed(t, o), strings.Fields(want))
	hold(t, m)
}

// A second reading of the chapter, by the tokens of types' texts.

// modelLocals are the Names of a type's Locals without a Mod, and the Mods of the others.
func modelLocals(t *testing.T, o api.Type) (names, mods []string) {
	t.Helper()
	s, err := kind.Print(o)
	if err != nil {
		return nil, nil
	}
	l, err := lex.Tokens(s)
	if err != nil {
		// Types of more than MaxText bytes have no tokens: they are too long for this reading.
		t.Fatal(err)
	}
	l = append(slices.Insert(l, 0, api.Token{}), api.Token{})
	open := false
	for i, k := range l {
		switch {
		case k.Text == "<":
			open = true
		case k.Text == ">":
			open = false
		case open || l[max(i-1, 0)].Text == ".":
		case k.Kind == api.TokLower && l[i+1].Text == ".":
			mods = append(mods, k.Text)
		case k.Kind == api.TokUpper && ident.Great(k.Text) && l[i+1].Text != ":":
			names = append(names, k.Text)
		}
	}
	return names, mods
}

func modelFirst(m api.Module, name string) (api.Decl, bool) {
	for _, d := range m.Decls {
		if d.Kind != api.Val && d.Name == name {
			return d, true
		}
	}
	return api.Decl{}, false
}

// modelMentions adds what aliases name till there is no more of it.
func modelMentions(t *testing.T, m api.Module, o api.Type) []string {
	t.Helper()
	all, _ := modelLocals(t, o)
	for i := 0; i < len(all); i++ {
		if d, _ := modelFirst(m, all[i]); d.Kind == api.Alias {
			names, _ := modelLocals(t, d.Type)
			for _, n := range names {
				if !slices.Contains(all, n) {
					all = append(all, n)
				}
			}
		}
	}
	slices.Sort(all)
	return slices.DeleteFunc(slices.Compact(all), func(n string) bool {
		_, has := modelFirst(m, n)
		return !has
	})
}

// modelCheck reads P7.2 word by word, of a module that may be.
func modelCheck(t *testing.T, m api.Module) (api.Code, int) {
	t.Helper()
	for i := range m.Imports {
		for j := range i {
			if m.Imports[j].As == m.Imports[i].As {
				return api.ErrTwice, i
			}
		}
	}
	for i, d := range m.Decls {
		for _, o := range m.Decls[:i] {
			if o.Name == d.Name && (o.Kind == api.Val) == (d.Kind == api.Val) {
				return api.ErrTwice, i
			}
		}
	}
	for i, d := range m.Decls {
		names, mods := modelLocals(t, d.Type)
		for _, n := range names {
			if _, has := modelFirst(m, n); !has {
				return api.ErrName, i
			}
		}
		for _, n := range mods {
			if !slices.ContainsFunc(m.Imports, func(x api.Import) bool { return x.As == n }) {
				return api.ErrName, i
			}
		}
	}
	for i, d := range m.Decls {
		if d.Kind == api.Alias && slices.Contains(modelMentions(t, m, d.Type), d.Name) {
			return api.ErrDeep, i
		}
	}
	for i, d := range m.Decls {
		for _, n := range modelMentions(t, m, d.Type) {
			if o, _ := modelFirst(m, n); o.Kind == api.Hidden {
				return api.ErrHidden, i
			}
		}
	}
	return 0, -1
}

// hold holds a module, which may be, against the second reading, and tells what there is amiss.
func hold(t *testing.T, m api.Module) api.Code {
	t.Helper()
	if !syntax.May(m) {
		t.Fatal(textOf(m))
	}
	code, at := modelCheck(t, m)
	wantFault(t, m, code, at)
	for _, d := range m.Decls {
		if kind.May(d.Type) {
			wantNames(t, m, d.Type, modelMentions(t, m, d.Type))
		} else {
			wantNames(t, m, d.Type, nil)
		}
		if d.Kind != api.Val {
			o := sample.Local("", d.Name)
			wantNames(t, m, o, modelMentions(t, m, o))
		}
	}
	return code
}

func TestExample(t *testing.T) {
	wantCheck(t, "alias A = List(A)", api.ErrDeep, 0)
	wantMentions(t, "alias A = List(A)", "A", "A")
}

func TestMentions(t *testing.T) {
	const s = "import p 1 q as r opaque T hidden H alias A = List(T) alias B = {a: A, b: U, c: r.V} opaque U val v : B opaque V"
	for o, want := range map[string]string{
		"Int": "", "Text": "", "Bool": "", "{}": "", "List(Int)": "",
		"T": "T", "U": "U", "H": "H", "A": "A T", "B": "A B T U", "V": "V",
		"W": "", "List(W)": "", "(W, T) -> X": "T", "[W: T]": "T", "[T: W]": "", "[T: U, U: T]": "T U",
		"r.T": "", "r.A": "", "m.T": "", "q.T": "", "p.B": "", "(r.T) -> U": "U", "{t: r.T, u: T}": "T",
		"<p 1 q T>": "", "<m 1 m A>": "", "List(<p 1 m B>)": "", "(<p 1 m B>) -> T": "T",
		"(T, T, A) -> T": "A T", "(B, A, U) -> T": "A B T U", "{a: H, b: List(V)}": "H V",
		"() -> T": "T", "(T) -> Int": "T", "List(List(List(A)))": "A T", "{a: {b: {c: V}}}": "V", "[A: [A: {a: (U) -> List(H)}]]": "H U",
	} {
		wantMentions(t, s, o, want)
	}
	wantMentions(t, "", "T", "")
	wantMentions(t, "opaque T", "{a: T, b: T, c: List(T)}", "T")
	wantMentions(t, "val t : T", "T", "")
	wantMentions(t, "val t : Int", "(T) -> t.T", "")
}

// Names rise byte by byte.
func TestRising(t *testing.T) {
	wantMentions(t, "opaque Z9 opaque B opaque Aa opaque A1 opaque AA opaque Z opaque A opaque A10 opaque A9 opaque ZZ opaque Za", "(Za, ZZ, A9, A10, A, Z, AA, A1, Aa, B) -> Z9", "A A1 A10 A9 AA Aa B Z Z9 ZZ Za")
	wantMentions(t, "alias D = C alias C = (B, D) -> A opaque B opaque A", "C", "A B C D")
	// Of all types that a module can have.
	var s, want []string
	for i := range api.MaxDecls {
		name := "T" + strconv.Itoa((i*37)%61)
		s, want = append(s, "opaque "+name), append(want, name)
	}
	var parts []api.Type
	for n := range 3 {
		parts = append(parts, typed(t, "("+strings.Join(want[20*n:20*n+19], ", ")+") -> "+want[20*n+19]))
	}
	o := sample.Func(parts...)
	slices.Sort(want)
	wantNames(t, module(t, strings.Join(s, " ")), o, want)
	wantNil(t, strings.Join(s, " "))
}

// An alias of an alias, and so on; and circles of them.
func TestAllInAll(t *testing.T) {
	wantMentions(t, "alias A = B alias B = C alias C = D opaque D", "A", "A B C D")
	wantMentions(t, "opaque D alias C = D alias B = C alias A = B", "B", "B C D")
	wantMentions(t, "alias A = B alias B = A", "A", "A B")
	wantMentions(t, "alias A = B alias B = A", "List(B)", "A B")
	wantMentions(t, "alias A = B alias B = B", "A", "A B")
	wantMentions(t, "alias A = B alias B = B", "B", "B")
	wantMentions(t, "alias A = (B, C) -> D alias B = {a: D} alias C = [A: B, B: E] hidden D opaque E", "A", "A B C D E")
	wantMentions(t, "alias A = (B, X) -> m.C alias B = <p 1 m C> opaque C", "A", "A B")
	// What is not an alias mentions nothing, and a Val is nobody's.
	wantMentions(t, "opaque A hidden B val a : C val b : C opaque C", "(A) -> B", "A B")
}

// Of several declarations of one name the first one counts.
func TestFirstCounts(t *testing.T) {
	wantMentions(t, "opaque A alias A = B opaque B", "A", "A")
	wantMentions(t, "alias A = B opaque A opaque B", "A", "A B")
	wantMentions(t, "alias A = B alias A = C opaque B opaque C", "A", "A B")
	wantMentions(t, "alias A = C alias A = B opaque B opaque C", "A", "A C")
	wantMentions(t, "hidden A alias A = B opaque B", "List(A)", "A")
	wantMentions(t, "alias A = Int hidden A alias A = B opaque B", "List(A)", "A")
	wantMentions(t, "val a : B val a : C opaque B opaque C alias A = B alias A = C", "A", "A B")
	wantMentions(t, "import p 1 q as r import p 1 q as r alias A = (r.B) -> C opaque B opaque C opaque C", "A", "A C")
}

// What is told of a type hangs neither on what Check tells, nor on a type that isn't mentioned.
func TestMentionsOfAmiss(t *testing.T) {
	wantMentions(t, "alias A = nowhere.T alias B = (Nowhere, T) -> A hidden T", "B", "A B T")
	wantMentions(t, "import p 1 q as r import p 1 q as r opaque T", "T", "T")
	wantMentions(t, "opaque T opaque T", "T", "T")
	wantMentions(t, "opaque T alias A = A", "T", "T")
	wantMentions(t, "opaque T alias A = T", "T", "T")
}

func TestImportsTwice(t *testing.T) {
	wantCheck(t, "import p 1 q as r import p 1 q as r", api.ErrTwice, 1)
	wantCheck(t, "import p 1 q as r import s 2 t as r", api.ErrTwice, 1)
	wantCheck(t, "import p 1 q as a import p 1 q as b import p 1 q as a", api.ErrTwice, 2)
	wantCheck(t, "import p 1 q as a import p 1 q as b import p 1 q as b import p 1 q as a", api.ErrTwice, 2)
	wantCheck(t, "import p 1 q as a import p 1 q as a import p 1 q as a", api.ErrTwice, 1)
	wantNil(t, "import p 1 q as r import p 1 q as s import p 1 q as rr")
	wantNil(t, "import p 1 q as q import q 1 p as p import m 1 m as m")
	wantNil(t, "import p 1 q as v opaque V val v : v.V")
	var l []string
	for i := range api.MaxImports {
		l = append(l, "import p 1 q as a"+strconv.Itoa(i))
	}
	wantNil(t, strings.Join(l, " "))
	for i := range l {
		for j := range i {
			twice := slices.Clone(l)
			twice[i] = l[j]
			wantCheck(t, strings.Join(twice, " "), api.ErrTwice, i)
		}
	}
}

func TestNamesTwice(t *testing.T) {
	types, vals := []string{"opaque T", "hidden T", "alias T = Int", "alias T = Text"}, []string{"val t : Int", "val t : Text"}
	for _, l := range [][]string{types, vals} {
		for _, a := range l {
			wantNil(t, a)
			for _, b := range l {
				wantCheck(t, a+" "+b, api.ErrTwice, 1)
				wantCheck(t, a+" opaque U "+b, api.ErrTwice, 2)
				wantCheck(t, "val u : Int "+a+" opaque U "+b+" hidden V", api.ErrTwice, 3)
				wantCheck(t, a+" opaque U opaque U "+b, api.ErrTwice, 2)
				wantCheck(t, a+" opaque U "+b+" opaque U", api.ErrTwice, 2)
				wantCheck(t, a+" "+b+" "+a, api.ErrTwice, 1)
			}
		}
	}
	wantNil(t, "opaque T val t : Int hidden TT val tt : Int alias Tt = Int val t0 : Int")
	wantNil(t, "import p 1 t as t opaque T val t : Int val m : Text val p : Bool")
	var l []string
	for i := range api.MaxDecls {
		l = append(l, []string{"opaque T", "hidden T", "alias T", "val t"}[i%4]+strconv.Itoa(i)+[]string{"", "", " = Int", " : Text"}[i%4])
	}
	wantNil(t, strings.Join(l, " "))
	for i := range l {
		for _, j := range []int{0, 1, 2, 3, i - 4, i - 1} {
			if 0 <= j && j < i {
				twice := slices.Clone(l)
				twice[i] = l[j]
				wantCheck(t, strings.Join(twice, " "), api.ErrTwice, i)
			}
		}
	}
}

func TestNowhere(t *testing.T) {
	for _, d := range []string{"alias A = ", "val a : "} {
		for _, o := range []string{"@", "List(@)", "(@) -> Int", "() -> @", "(Int, @, Int) -> Int", "{a: Int, b: @}", "[T: @]", "[A: Int, B: List(@)]", "{t: (Int) -> List([A: {b: @}])}"} {
			own := d + strings.ReplaceAll(o, "@", "T")
			wantCheck(t, own, api.ErrName, 0)
			wantCheck(t, "opaque U "+own+" opaque V val t : Int", api.ErrName, 1)
			for _, there := range []string{"opaque T", "alias T = Int"} {
				wantNil(t, there+" "+own)
				wantNil(t, own+" "+there)
			}
			other := d + strings.ReplaceAll(o, "@", "r.T")
			wantCheck(t, other, api.ErrName, 0)
			wantCheck(t, "opaque T "+other, api.ErrName, 1)
			wantNil(t, "import p 1 q as r "+other)
			wantNil(t, "import t 1 t as t import p 1 q as r "+other+" opaque T")
		}
	}
	// A Val's name is no type's; nor is a field's, or an Open's.
	wantCheck(t, "val t : T", api.ErrName, 0)
	wantCheck(t, "val t : Int val u : (T) -> Int", api.ErrName, 1)
	wantCheck(t, "val a : [T: T]", api.ErrName, 0)
	wantCheck(t, "opaque TT opaque Tt alias A = T", api.ErrName, 2)
	wantNil(t, "val a : [T: Int] val b : <p 1 q T> val c : {t: <m 1 m U>}")
	// A Mod is an import's As: neither its Pkg, nor its Mod, nor the module's Name, nor a Val's.
	wantCheck(t, "import p 1 q as r val v : p.T", api.ErrName, 0)
	wantCheck(t, "import p 1 q as r val v : q.T", api.ErrName, 0)
	wantCheck(t, "import p 1 q as r val v : m.T", api.ErrName, 0)
	wantCheck(t, "import p 1 q as r val v : v.T", api.ErrName, 0)
	wantCheck(t, "import p 1 q as r opaque T val v : rr.T", api.ErrName, 1)
	wantCheck(t, "val v : m.T opaque T", api.ErrName, 0)
	// With an import's As, what the other module tells isn't asked; without one, an import's tells nothing.
	wantNil(t, "import p 1 q as r val v : (r.T, r.Nowhere) -> r.T alias A = r.A alias B = List(r.A)")
	wantCheck(t, "import p 1 q as r val v : (r.T) -> T", api.ErrName, 0)
	// The first one at fault, in the order of declarations.
	wantCheck(t, "opaque T alias A = T val a : U val b : U alias B = r.T", api.ErrName, 2)
	wantCheck(t, "opaque T alias B = r.T alias A = T val a : U", api.ErrName, 1)
	// What an alias names is its own fault, not that of who mentions it.
	wantCheck(t, "val a : A alias B = A alias A = U", api.ErrName, 2)
}

func TestDeep(t *testing.T) {
	for _, o := range []string{"A", "List(A)", "{a: A}", "[A: A]", "(A) -> Int", "() -> A", "(Int, {a: Int, b: [A: List(A)]}) -> Int"} {
		wantCheck(t, "alias A = "+o, api.ErrDeep, 0)
		wantCheck(t, "opaque T alias A = "+o+" val a : A", api.ErrDeep, 1)
		wantCheck(t, "val a : A alias B = A alias A = "+o, api.ErrDeep, 2)
		wantCheck(t, "alias A = B alias B = "+o, api.ErrDeep, 0)
		wantCheck(t, "alias C = B alias B = "+o+" alias A = List(B)", api.ErrDeep, 1)
		wantCheck(t, "val a : A alias A = B alias B = C alias C = "+o, api.ErrDeep, 1)
	}
	// The first alias in a circle, not one that only leads to it.
	wantCheck(t, "alias A = B alias B = C alias C = B", api.ErrDeep, 1)
	wantCheck(t, "alias A = B alias B = C alias C = C", api.ErrDeep, 2)
	wantCheck(t, "alias A = (B, D) -> C alias B = Int alias C = B alias D = {a: D}", api.ErrDeep, 3)
	wantCheck(t, "alias A = B alias B = A alias C = D alias D = C", api.ErrDeep, 0)
	// None in a circle: the same type twice, by one's own name with a Mod, as a Variant's name, in an Open.
	wantNil(t, "alias A = (B, C) -> D alias B = List(D) alias C = List(D) alias D = {}")
	wantNil(t, "import p 1 q as m alias A = m.A alias B = [B: {b: A}] alias C = <m 1 m C>")
	wantNil(t, "opaque A val a : A val aa : (A) -> A")
	// Of all lengths.
	for n := 1; n <= api.MaxDecls; n++ {
		var l []string
		for i := range n {
			l = append(l, "alias A"+strconv.Itoa(i)+" = List(A"+strconv.Itoa((i+1)%n)+")")
		}
		wantFault(t, module(t, strings.Join(l, " ")), api.ErrDeep, 0)
		l[n-1] = "opaque A" + strconv.Itoa(n-1)
		wantFault(t, module(t, strings.Join(l, " ")), 0, -1)
		l[n-1] = "alias A" + strconv.Itoa(n-1) + " = A" + strconv.Itoa(n/2)
		wantFault(t, module(t, strings.Join(l, " ")), api.ErrDeep, n/2)
	}
}

func TestHidden(t *testing.T) {
	for _, o := range []string{"H", "List(H)", "{a: H}", "[H: H]", "(H) -> Int", "() -> H", "(Int, {a: Int, b: [A: List(H)]}) -> Int"} {
		wantCheck(t, "hidden H alias A = "+o, api.ErrHidden, 1)
		wantCheck(t, "hidden H val a : "+o, api.ErrHidden, 1)
		wantCheck(t, "val a : "+o+" hidden H", api.ErrHidden, 0)
		wantCheck(t, "opaque T alias A = T val a : (T) -> A alias B = "+o+" hidden H val b : H", api.ErrHidden, 3)
		wantCheck(t, "val a : A alias A = B alias B = "+o+" hidden H", api.ErrHidden, 0)
		wantCheck(t, "val b : Int alias B = "+o+" alias A = B val a : A hidden H", api.ErrHidden, 1)
		wantNil(t, "opaque H alias A = "+o)
		wantNil(t, "alias H = Int val a : "+o+" hidden I")
	}
	// A Hidden one that isn't mentioned; and one of another module.
	wantNil(t, "hidden H")
	wantNil(t, "hidden H hidden I opaque T val h : T alias A = [H: T]")
	wantNil(t, "import p 1 q as r hidden H val h : r.H alias A = <m 1 m H>")
	var l []string
	for i := range api.MaxDecls - 1 {
		l = append(l, "alias A"+strconv.Itoa(i)+" = List(A"+strconv.Itoa(i+1)+")")
	}
	last := "A" + strconv.Itoa(api.MaxDecls-1)
	wantCheck(t, strings.Join(l, " ")+" hidden "+last, api.ErrHidden, 0)
	wantCheck(t, "hidden "+last+" "+strings.Join(l, " "), api.ErrHidden, 1)
	wantNil(t, strings.Join(l, " ")+" opaque "+last)
}

// Of several faults the one is told that P7.2 names first, wherever they stand.
func TestWhichFirst(t *testing.T) {
	pieces := []struct {
		text  string
		decls int
		code  api.Code
		at    int
	}{
		{"hidden Dd val dd : Int val dd : Text opaque Dd", 4, api.ErrTwice, 2},
		{"opaque E val e : (E) -> Nowhere", 2, api.ErrName, 1},
		{"val f : Int val ff : r.F alias F = s.F", 3, api.ErrName, 2},
		{"opaque G alias G0 = G1 alias G1 = List(G1)", 3, api.ErrDeep, 2},
		{"hidden H opaque H0 val h : (H0) -> H", 3, api.ErrHidden, 2},
		{"opaque I val i : I", 2, 0, 0},
	}
	order := []api.Code{api.ErrTwice, api.ErrName, api.ErrDeep, api.ErrHidden, 0}
	var walk func(s string, decls int, code api.Code, at int, taken []int)
	walk = func(s string, decls int, code api.Code, at int, taken []int) {
		wantCheck(t, "import p 1 q as r "+s, code, at)
		// An import's ErrTwice is ahead of all others.
		wantCheck(t, "import p 1 q as r import p 1 q as s import p 1 q as r "+s, api.ErrTwice, 2)
		for i, p := range pieces {
			if slices.Contains(taken, i) {
				continue
			}
			nextCode, nextAt := code, at
			if slices.Index(order, p.code) < slices.Index(order, code) {
				nextCode, nextAt = p.code, decls+p.at
			}
			walk(s+" "+p.text, decls+p.decls, nextCode, nextAt, append(slices.Clip(taken), i))
		}
	}
	walk("", 0, 0, -1, nil)
	// In one declaration.
	wantCheck(t, "alias A = (A, Nowhere) -> H hidden H", api.ErrName, 0)
	wantCheck(t, "alias A = (A) -> H hidden H", api.ErrDeep, 0)
	wantCheck(t, "hidden A alias A = (A, Nowhere) -> Int", api.ErrTwice, 1)
	wantCheck(t, "alias B = A alias A = A hidden A", api.ErrTwice, 2)
}

func imports(n int) []api.Import {
	var l []api.Import
	for i := range n {
		l = append(l, sample.Import("p", 1+i, "q", "a"+strconv.Itoa(i)))
	}
	return l
}

// badTypes are some that may not be.
func badTypes() []api.Type {
	return []api.Type{{}, {Kind: -1}, {Kind: 10}, {Kind: api.Local}, sample.Local("", "t"), sample.Local("M", "T"), sample.Local("", "Int"), {Kind: api.Int, Name: "T"}, sample.List(api.Type{}),
		sample.Nested(32, sample.Local("", "T")), sample.Func(), sample.Func(slices.Repeat([]api.Type{sample.Local("", "T")}, 21)...), sample.Record("b a", sample.Int(), sample.Local("", "T")), sample.Open("p", 0, "m", "T"),
		{Kind: api.Local, Name: "T", Pkg: "p"}, {Kind: api.Local, Name: "T", Subs: []api.Type{sample.Int()}}, {Kind: api.Variant}}
}

func badModules(t *testing.T) []api.Module {
	good := module(t, "opaque T")
	l := []api.Module{{}, {Name: "M", Decls: good.Decls}, {Name: "as", Decls: good.Decls}, {Decls: good.Decls}, {Name: "m", Imports: imports(21), Decls: good.Decls},
		{Name: "m", Imports: []api.Import{{}}, Decls: good.Decls}, {Name: "m", Imports: []api.Import{sample.Import("p", 0, "q", "r")}, Decls: good.Decls}, {Name: "m", Imports: []api.Import{sample.Import("p", 1, "q", "R")}, Decls: good.Decls},
		sample.Module("m", nil, api.Decl{}), sample.Module("m", nil, sample.Opaque("t")), sample.Module("m", nil, sample.Val("T", sample.Int())), sample.Module("m", nil, api.Decl{Kind: 5, Name: "T"}),
		sample.Module("m", nil, api.Decl{Kind: api.Opaque, Name: "T", Type: sample.Int()}), sample.Module("m", nil, api.Decl{Kind: api.Hidden, Name: "T", Type: sample.Local("", "T")})}
	var many []api.Decl
	for i := range api.MaxDecls + 1 {
		many = append(many, sample.Opaque("T"+strconv.Itoa(i)))
	}
	l = append(l, sample.Module("m", nil, many...))
	for _, o := range badTypes() {
		l = append(l, sample.Module("m", nil, sample.Opaque("T"), sample.Alias("A", o)), sample.Module("m", nil, sample.Val("a", o), sample.Opaque("T")))
	}
	return l
}

// What may not be: ErrArg itself, ahead of all others, and no mentions.
func TestArg(t *testing.T) {
	amiss := module(t, "import p 1 q as r import p 1 q as r opaque T opaque T val a : Nowhere alias A = A hidden H val h : H")
	for _, m := range badModules(t) {
		for _, x := range []api.Module{m, {Name: m.Name, Imports: m.Imports, Decls: append(slices.Clone(amiss.Decls), m.Decls...)}, {Name: m.Name, Imports: append(slices.Clone(amiss.Imports), m.Imports...), Decls: m.Decls}} {
			wantFault(t, x, api.ErrArg, -1)
			wantNames(t, x, sample.Local("", "T"), nil)
			wantNames(t, x, sample.Func(sample.Local("", "A"), sample.Local("", "T")), nil)
			wantNames(t, x, api.Type{}, nil)
		}
	}
	m := module(t, "opaque T alias A = T")
	for _, o := range badTypes() {
		wantNames(t, m, o, nil)
		wantNames(t, m, sample.Func(sample.Local("", "A"), o), nil)
		wantNames(t, m, sample.Func(o, sample.Local("", "A")), nil)
	}
	wantFault(t, sample.Module("m", imports(20)), 0, -1)
	wantFault(t, sample.Module("m", nil), 0, -1)
}

// wide is a type of many Locals, of these names, over and over.
func wide(names ...string) api.Type {
	var subs []api.Type
	for i := range api.MaxSubs {
		var l []api.Type
		for j := range api.MaxSubs {
			l = append(l, sample.Local("", names[(i*api.MaxSubs+j)%len(names)]))
		}
		subs = append(subs, sample.Func(l...))
	}
	return sample.Func(subs...)
}

// The limits of a type are those of each alone, not of what aliases come to; and all has an end.
func TestLarge(t *testing.T) {
	var l []api.Decl
	for i := range api.MaxDecls - 1 {
		l = append(l, sample.Alias("A"+strconv.Itoa(i), sample.Nested(31, sample.Local("", "A"+strconv.Itoa(i+1)))))
	}
	m := sample.Module("m", imports(20), append(l, sample.Opaque("A59"))...)
	wantFault(t, m, 0, -1)
	hold(t, m)
	m.Decls[59] = sample.Hidden("A59")
	wantFault(t, m, api.ErrHidden, 0)
	m.Decls[59] = sample.Alias("A59", sample.Nested(31, sample.Local("", "A30")))
	wantFault(t, m, api.ErrDeep, 30)
	hold(t, m)

	// Each mentions all that stand behind it, many times over.
	names := []string{}
	for i := range api.MaxDecls {
		names = append(names, "B"+strconv.Itoa(i))
	}
	l = nil
	for i := range api.MaxDecls - 1 {
		l = append(l, sample.Alias(names[i], wide(names[i+1:]...)))
	}
	m = sample.Module("m", nil, append(l, sample.Opaque("B59"))...)
	wantFault(t, m, 0, -1)
	slices.Sort(names)
	wantNames(t, m, sample.Local("", "B0"), names)
	for i := range m.Decls {
		m.Decls[i] = sample.Alias(m.Decls[i].Name, wide(names...))
	}
	wantFault(t, m, api.ErrDeep, 0)
	wantNames(t, m, sample.Local("", "B59"), names)
}

// P1: types that share memory without end, or lie in themselves.
func TestEnds(t *testing.T) {
	in := []api.Type{{Kind: api.List}}
	in[0].Subs = in
	both := []api.Type{{Kind: api.Func}, {Kind: api.Func}}
	both[0].Subs, both[1].Subs = both, both
	shared := sample.Local("", "T")
	for range 40 {
		shared = sample.Func(shared, shared)
	}
	good := module(t, "opaque T alias A = List(T)")
	for _, o := range []api.Type{in[0], both[0], shared, {Subs: in}, {Kind: api.Local, Name: "T", Subs: both}} {
		wantNames(t, good, o, nil)
		wantFault(t, sample.Module("m", nil, sample.Opaque("T"), sample.Alias("A", o)), api.ErrArg, -1)
		wantFault(t, sample.Module("m", nil, api.Decl{Kind: api.Opaque, Name: "T", Type: o}), api.ErrArg, -1)
		wantFault(t, sample.Module("m", nil, slices.Repeat([]api.Decl{sample.Val("a", o)}, 100000)...), api.ErrArg, -1)
		wantNames(t, sample.Module("m", nil, sample.Opaque("T"), sample.Val("a", o)), sample.Local("", "T"), nil)
	}
	wantFault(t, sample.Module("m", slices.Repeat(imports(1), 100000)), api.ErrArg, -1)
	wantNames(t, api.Module{}, api.Type{}, nil)
}

// P7.3: what is handed in stays as it is, what lies behind it in its memory too.
func TestStays(t *testing.T) {
	full := module(t, "import p 1 q as r import s 2 t as u opaque T hidden H alias B = {a: T, b: (A) -> r.X} alias A = [A: Int, B: List(T)] val z : (B) -> T alias C = C val h : H opaque T val y : Nowhere")
	full.Decls[4].Type.Subs = append(full.Decls[4].Type.Subs, sample.Local("", "Behind"))[:2]
	was := sample.CloneModule(full)
	o := sample.Func(append([]api.Type{sample.Local("", "C"), sample.Local("", "B")}, sample.Local("", "Behind"))[:2]...)
	wasType := sample.CloneType(o)
	for n := range len(full.Decls) + 1 {
		m := full
		m.Imports, m.Decls = full.Imports[:n%3], full.Decls[:n]
		scope.Check(m)
		scope.Mentions(m, o)
	}
	if !reflect.DeepEqual(full, was) || !reflect.DeepEqual(o, wasType) || o.Subs[:3][2].Name != "Behind" || full.Decls[4].Type.Subs[:3][2].Name != "Behind" {
		t.Error("what was handed in was changed")
	}
	for _, m := range badModules(t) {
		was := sample.CloneModule(m)
		scope.Check(m)
		scope.Mentions(m, o)
		if !reflect.DeepEqual(m.Imports, was.Imports) || !reflect.DeepEqual(m.Decls, was.Decls) {
			t.Errorf("%s was changed", textOf(was))
		}
	}
}

// shares tells whether two texts, of one byte at least, lie in the same memory.
func shares(a, b string) bool {
	at, of := uintptr(unsafe.Pointer(unsafe.StringData(a))), uintptr(unsafe.Pointer(unsafe.StringData(b)))
	return at < of+uintptr(len(b)) && of < at+uintptr(len(a))
}

func TestNewMemory(t *testing.T) {
	m := module(t, "opaque Tt alias Aa = List(Tt) alias Bb = (Aa, Cc) -> Tt hidden Cc opaque U alias V = U")
	o := sample.Func(sample.Local("", strings.Clone("Bb")), sample.Local("", strings.Clone("V")))
	want := []string{"Aa", "Bb", "Cc", "Tt", "U", "V"}
	one, two := scope.Mentions(m, o), scope.Mentions(m, o)
	handed := []string{o.Subs[0].Name, o.Subs[1].Name, m.Decls[1].Type.Subs[0].Name, m.Decls[2].Type.Subs[0].Name, m.Decls[2].Type.Subs[1].Name, m.Decls[5].Type.Name}
	for _, d := range m.Decls {
		handed = append(handed, d.Name)
	}
	for i, s := range one {
		if slices.ContainsFunc(handed, func(h string) bool { return shares(h, s) }) || shares(s, two[i]) {
			t.Errorf("%s is no new memory", s)
		}
	}
	clear(one[:cap(one)])
	if !slices.Equal(two, want) {
		t.Errorf("two answers share a list: %v", two)
	}
	wantNames(t, m, o, want)

	deep := module(t, "opaque T alias A = A")
	var s *api.Spot
	if !errors.As(scope.Check(deep), &s) {
		t.Fatal("no Spot")
	}
	s.At, s.Err = 77, api.ErrFull
	wantFault(t, deep, api.ErrDeep, 1)
}

// Nothing is kept from one call to the next.
func TestKeepsNothing(t *testing.T) {
	one, two := module(t, "opaque A alias B = A val b : B"), module(t, "hidden B alias A = {b: B} opaque C")
	for range 3 {
		wantFault(t, one, 0, -1)
		wantNames(t, one, sample.Local("", "B"), []string{"A", "B"})
		wantFault(t, two, api.ErrHidden, 1)
		wantNames(t, two, sample.Local("", "B"), []string{"B"})
		wantNames(t, two, sample.Local("", "A"), []string{"A", "B"})
		wantFault(t, module(t, ""), 0, -1)
		wantNames(t, module(t, ""), sample.Local("", "A"), nil)
	}
}

func decls(t *testing.T, lines string) []api.Decl {
	t.Helper()
	var l []api.Decl
	for _, s := range strings.Split(lines, ";") {
		l = append(l, module(t, s).Decls...)
	}
	return l
}

// All modules of a few declarations, which stand in all orders then.
func TestAllSmall(t *testing.T) {
	rs := []api.Import{sample.Import("p", 1, "q", "r")}
	for _, of := range []struct {
		lines string
		most  int
	}{
		{"opaque T; opaque U; hidden T; hidden U; hidden V; alias T = Int; alias T = T; alias T = U; alias T = V; alias T = r.T; alias T = s.U; alias U = T; alias U = List(U); alias U = V; alias U = {a: T, b: V}; alias V = T; alias V = U; alias V = (V) -> T; val t : T; val t : U; val t : r.U; val u : V; val u : (U) -> [T: Int]; val v : s.V", 3},
		{"opaque T; hidden U; hidden V; alias T = U; alias U = V; alias V = T; alias U = U; alias T = V; alias V = (T) -> U; val t : T; val u : V", 4},
	} {
		menu := decls(t, of.lines)
		found := map[api.Code]int{}
		var walk func(m api.Module)
		walk = func(m api.Module) {
			found[hold(t, m)]++
			if len(m.Decls) == of.most {
				return
			}
			for _, d := range menu {
				walk(sample.Module("m", rs, append(slices.Clip(m.Decls), d)...))
			}
		}
		walk(sample.Module("m", rs))
		for _, c := range faults {
			if found[c] < 10 {
				t.Errorf("error %d was told %d times", c, found[c])
			}
		}
	}
}

// All types of few parts, in a module that has some of what they name.
func TestAllTypes(t *testing.T) {
	m := module(t, "import p 1 q as r alias B = (T) -> A alias A = List(U) opaque U hidden T alias C = {c: D} alias D = [C: C]")
	small := []api.Type{sample.Int(), sample.Record("")}
	for _, s := range []string{"A", "B", "C", "D", "T", "U", "X", "r.A", "m.B", "<p 1 q A>", "<m 1 m T>"} {
		small = append(small, typed(t, s))
	}
	all := slices.Clone(small)
	for _, a := range small {
		all = append(all, sample.List(a), sample.Func(a), sample.Record("a", a), sample.Variant("A", a), sample.List(sample.Variant("T", a)))
		for _, b := range small {
			all = append(all, sample.Func(a, b), sample.Record("a b", a, b), sample.Variant("A T", a, b), sample.Func(sample.List(a), b))
			for _, c := range small {
				all = append(all, sample.Func(a, b, c))
			}
		}
	}
	for _, o := range all {
		wantNames(t, m, o, modelMentions(t, m, o))
	}
}

// Each place of a type's Subs, and each level, counts.
func TestEachPlace(t *testing.T) {
	m := module(t, "opaque T hidden H")
	for n := 1; n <= api.MaxSubs; n++ {
		for i := range n {
			l := slices.Repeat([]api.Type{sample.Int()}, n)
			l[i] = sample.Local("", "T")
			var smalls, greats []string
			for j := range n {
				smalls, greats = append(smalls, "x"+string(rune('a'+j))), append(greats, "X"+string(rune('a'+j)))
			}
			for _, o := range []api.Type{sample.Func(l...), sample.Record(strings.Join(smalls, " "), l...), sample.Variant(strings.Join(greats, " "), l...)} {
				wantNames(t, m, o, []string{"T"})
				wantFault(t, sample.Module("m", nil, sample.Val("a", o)), api.ErrName, 0)
				wantFault(t, sample.Module("m", nil, sample.Val("a", o), sample.Hidden("T")), api.ErrHidden, 0)
				wantFault(t, sample.Module("m", nil, sample.Alias("T", o)), api.ErrDeep, 0)
			}
		}
	}
	for n := range api.MaxDepth {
		o := sample.Nested(n, sample.Local("", "H"))
		wantNames(t, m, o, []string{"H"})
		wantFault(t, sample.Module("m", m.Imports, append(slices.Clone(m.Decls), sample.Alias("A", o))...), api.ErrHidden, 2)
		wantFault(t, sample.Module("m", nil, sample.Alias("A", sample.Nested(n, sample.Local("r", "H")))), api.ErrName, 0)
	}
}

// anyType is of few parts, the same ones at each run; its Locals are of these names.
func anyType(r *rand.Rand, levels int, locals []string) api.Type {
	if levels == 1 || r.Intn(3) == 0 {
		if len(locals) == 0 || r.Intn(4) == 0 {
			return []api.Type{sample.Int(), sample.Text(), sample.Record(""), sample.Open("p", 1, "m", "A0")}[r.Intn(4)]
		}
		mod, name, has := strings.Cut(locals[r.Intn(len(locals))], ".")
		if !has {
			return sample.Local("", mod)
		}
		return sample.Local(mod, name)
	}
	s := func() api.Type { return anyType(r, levels-1, locals) }
	switch r.Intn(4) {
	case 0:
		return sample.List(s())
	case 1:
		return sample.Record("a b", s(), s())
	case 2:
		return sample.Variant("A0 A1", s(), s())
	}
	return sample.Func(s(), s())
}

// faults are what may be amiss in anyModule's.
var faults = []api.Code{0, api.ErrTwice, api.ErrName, api.ErrDeep, api.ErrHidden}

// anyModule is one that may be, the same ones at each run, of so many declarations; a few places have what leads to that fault, or to another one by chance.
func anyModule(r *rand.Rand, all int, fault api.Code) api.Module {
	m := sample.Module("m", imports(1+r.Intn(20)))
	var there []string
	for i := range m.Imports {
		there = append(there, "a"+strconv.Itoa(i)+".T")
	}
	from := len(there)
	for i := range all {
		m.Decls = append(m.Decls, sample.Opaque("A"+strconv.Itoa(i)))
		m.Decls[i].Kind = 1 + r.Intn(4)
		if m.Decls[i].Kind == api.Opaque || m.Decls[i].Kind == api.Alias {
			there = append(there, m.Decls[i].Name)
		}
	}
	for i, d := range m.Decls {
		locals := there
		if d.Kind == api.Alias {
			locals = there[:from+slices.Index(there[from:], d.Name)]
		}
		if r.Intn(2) == 0 {
			locals = slices.Concat(locals, amiss(m, fault))
		}
		if d.Kind == api.Alias || d.Kind == api.Val {
			m.Decls[i].Type = anyType(r, 1+r.Intn(4), locals)
		}
		if d.Kind == api.Val {
			m.Decls[i].Name = "a" + strconv.Itoa(i)
		}
	}
	if i, j := r.Intn(len(m.Imports)), r.Intn(len(m.Imports)); fault == api.ErrTwice && r.Intn(2) == 0 {
		m.Imports[i].As = m.Imports[j].As
	}
	if i, j := r.Intn(all+1), r.Intn(all+1); fault == api.ErrTwice && max(i, j) < all && (m.Decls[i].Kind == api.Val) == (m.Decls[j].Kind == api.Val) {
		m.Decls[i].Name = m.Decls[j].Name
	}
	return m
}

// amiss are names that lead to a fault, or may do so.
func amiss(m api.Module, fault api.Code) []string {
	var l []string
	for _, d := range m.Decls {
		if fault == api.ErrDeep && d.Kind == api.Alias || fault == api.ErrHidden && d.Kind == api.Hidden {
			l = append(l, d.Name, d.Name)
		}
	}
	if fault == api.ErrName {
		return []string{"Nowhere", "a20.T", "m.A0"}
	}
	return l
}

// P7.4, and modules of all sizes: declarations in another order have an error just if there was one.
func TestOtherOrders(t *testing.T) {
	r := rand.New(rand.NewSource(7))
	found := map[api.Code]int{}
	for n := range 2500 {
		all := r.Intn(16)
		if n%30 < 5 {
			all = r.Intn(api.MaxDecls + 1)
		}
		m := anyModule(r, all, faults[n%5])
		code := hold(t, m)
		found[code]++
		for range 4 {
			r.Shuffle(len(m.Decls), func(i, j int) { m.Decls[i], m.Decls[j] = m.Decls[j], m.Decls[i] })
			if again := hold(t, m); (again == 0) != (code == 0) {
				t.Errorf("%s: %d in one order, %d in another one", textOf(m), code, again)
			}
		}
	}
	for _, c := range faults {
		if found[c] < 50 {
			t.Errorf("error %d was told %d times", c, found[c])
		}
	}
}

// P7.4: of a module's aliases as Opaques, or left out, none is in a circle.
func TestWithoutAliases(t *testing.T) {
	r := rand.New(rand.NewSource(74))
	circles := 0
	for range 2000 {
		m := anyModule(r, r.Intn(30), api.ErrDeep)
		if code, _ := told(t, m); code == api.ErrDeep {
			circles++
		}
		left := sample.CloneModule(m)
		left.Decls = slices.DeleteFunc(left.Decls, func(d api.Decl) bool { return d.Kind == api.Alias })
		for i, d := range m.Decls {
			if d.Kind == api.Alias {
				m.Decls[i] = sample.Opaque(d.Name)
			}
		}
		if hold(t, m) == api.ErrDeep || hold(t, left) == api.ErrDeep {
			t.Errorf("%s: ErrDeep without an alias", textOf(m))
		}
	}
	if circles < 100 {
		t.Errorf("%d circles", circles)
	}
}
