package expand_test

import (
	"math/rand"
	"reflect"
	"slices"
	"strconv"
	"strings"
	"testing"
	"unsafe"

	"merlon/api"
	"merlon/expand"
	"merlon/expr"
	"merlon/ident"
	"merlon/kind"
	"merlon/lex"
	"merlon/sample"
	"merlon/scope"
	"merlon/syntax"
)

// module is the one of a text without its first two words.
func module(t *testing.T, s string) api.Module {
	t.Helper()
	m, err := syntax.Parse("module m " + s)
	if err != nil {
		t.Fatalf("Parse(%.300q): %v", s, err)
	}
	return m
}

func typed(t *testing.T, s string) api.Type {
	t.Helper()
	o, err := expr.Parse(s)
	if err != nil {
		t.Fatalf("Parse(%.300q): %v", s, err)
	}
	return o
}

// iface is an interface of types, each told as its name, an equals sign and its type.
func iface(t *testing.T, pkg string, major int, mod string, types ...string) api.Iface {
	t.Helper()
	x := api.Iface{Pkg: pkg, Major: major, Mod: mod}
	for _, s := range types {
		name, o, _ := strings.Cut(s, " = ")
		x.Types = append(x.Types, api.Named{Name: name, Type: typed(t, o)})
	}
	return x
}

func textOf(o api.Type) string {
	s, err := kind.Print(o)
	if err != nil {
		return "one that may not be"
	}
	return s
}

func moduleText(m api.Module) string {
	s, err := syntax.Print(m)
	if err != nil {
		return "one that may not be"
	}
	return strings.ReplaceAll(s, "\n", " ")
}

// call is what Expand is handed.
type call struct {
	m     api.Module
	pkg   string
	major int
	env   []api.Iface
	t     api.Type
}

// of is a call of package p 1, and of a module of that text.
func of(t *testing.T, s string, env []api.Iface, o string) call {
	t.Helper()
	return call{module(t, s), "p", 1, env, typed(t, o)}
}

func (c call) String() string {
	return "Expand(" + moduleText(c.m) + ", " + c.pkg + ", " + strconv.Itoa(c.major) + ", " + strconv.Itoa(len(c.env)) + " interfaces, " + textOf(c.t) + ")"
}

// wantCode holds an error, itself, and that nothing is told beside it.
func wantCode(t *testing.T, c call, code api.Code) {
	t.Helper()
	got, err := expand.Expand(c.m, c.pkg, c.major, c.env, c.t)
	if err != error(code) || !reflect.DeepEqual(got, api.Type{}) {
		t.Errorf("%.500s = %.200s, %v; want error %d", c, textOf(got), err, code)
	}
}

// wantType holds what is told, which is plain, and comes to itself: P8.4.
func wantType(t *testing.T, c call, want string) {
	t.Helper()
	got, err := expand.Expand(c.m, c.pkg, c.major, c.env, c.t)
	if err != nil || textOf(got) != want {
		t.Errorf("%.500s = %.300s, %v; want %.300s", c, textOf(got), err, want)
		return
	}
	if !kind.Plain(got) {
		t.Errorf("%.500s = %.300s, which isn't plain", c, textOf(got))
	}
	again, err := expand.Expand(c.m, c.pkg, c.major, c.env, got)
	if err != nil || !kind.Same(again, got) {
		t.Errorf("%.500s: what is told comes to %.300s, %v", c, textOf(again), err)
	}
}

// wantHold holds a call against the second reading alone.
func wantHold(t *testing.T, c call) api.Code {
	t.Helper()
	want, code := modelExpand(t, c)
	if code != 0 {
		wantCode(t, c, code)
	} else {
		wantType(t, c, want)
	}
	return code
}

func want(t *testing.T, s string, env []api.Iface, o, text string) {
	t.Helper()
	wantType(t, of(t, s, env, o), text)
	wantHold(t, of(t, s, env, o))
}

func wantError(t *testing.T, s string, env []api.Iface, o string, code api.Code) {
	t.Helper()
	wantCode(t, of(t, s, env, o), code)
	wantHold(t, of(t, s, env, o))
}

// A second reading of the chapter, by the tokens of types' texts.

// piece is a Local among tokens: how many it has, and what it names.
type piece struct {
	at, size  int
	mod, name string
}

func modelTokens(t *testing.T, s string) []api.Token {
	t.Helper()
	l, err := lex.Tokens(s)
	if err != nil {
		t.Fatal(err)
	}
	return l
}

// modelLocals are the Locals of a type's tokens.
func modelLocals(l []api.Token) []piece {
	var all []piece
	open := false
	text := func(i int) string {
		if i < 0 || i >= len(l) {
			return ""
		}
		return l[i].Text
	}
	for i, k := range l {
		switch {
		case k.Text == "<":
			open = true
		case k.Text == ">":
			open = false
		case open || k.Kind != api.TokUpper || !ident.Great(k.Text) || text(i+1) == ":":
		case text(i-1) == ".":
			all = append(all, piece{i - 2, 3, text(i - 2), k.Text})
		default:
			all = append(all, piece{i, 1, "", k.Text})
		}
	}
	return all
}

func modelAsked(l []api.Import, as string) (api.Import, bool) {
	for _, x := range l {
		if x.As == as {
			return x, true
		}
	}
	return api.Import{}, false
}

// modelFound is what the environment has of an import, of a name.
func modelFound(env []api.Iface, i api.Import, name string) (api.Type, bool) {
	for _, x := range env {
		if x.Pkg != i.Pkg || x.Major != i.Major || x.Mod != i.Mod {
			continue
		}
		for _, n := range x.Types {
			if n.Name == name {
				return n.Type, kind.Plain(n.Type)
			}
		}
		return api.Type{}, false
	}
	return api.Type{}, false
}

// modelMeans is the text of what a Local is, by one step; or an error.
func modelMeans(c call, p piece) (string, api.Code) {
	if p.mod != "" {
		i, has := modelAsked(c.m.Imports, p.mod)
		if !has {
			return "", api.ErrName
		}
		o, has := modelFound(c.env, i, p.name)
		if !has {
			return "", api.ErrNone
		}
		return textOf(o), 0
	}
	for _, d := range c.m.Decls {
		if d.Name == p.name && d.Kind == api.Alias {
			return textOf(d.Type), 0
		}
		if d.Name == p.name && d.Kind != api.Val {
			return "<" + c.pkg + " " + strconv.Itoa(c.major) + " " + c.m.Name + " " + p.name + ">", 0
		}
	}
	return "", api.ErrName
}

// modelMissing is ErrName of what t names, else ErrNone of what it and the aliases name that it mentions.
func modelMissing(t *testing.T, c call) api.Code {
	t.Helper()
	own := modelLocals(modelTokens(t, textOf(c.t)))
	for _, p := range own {
		if _, code := modelMeans(c, p); code == api.ErrName {
			return api.ErrName
		}
	}
	for i := 0; i < len(own); i++ {
		s, code := modelMeans(c, own[i])
		if code != 0 {
			return code
		}
		for _, p := range modelLocals(modelTokens(t, s)) {
			if !slices.ContainsFunc(own, func(o piece) bool { return o.mod == p.mod && o.name == p.name }) {
				own = append(own, p)
			}
		}
	}
	return 0
}

// modelMeasure is how many types there are in what a type comes to, and how deep that is: counted alone, as there may be very many.
func modelMeasure(t *testing.T, c call, o api.Type, known map[string][2]int) (types, deep int) {
	t.Helper()
	s := textOf(o)
	if k, has := known[s]; has {
		return k[0], k[1]
	}
	if o.Kind == api.Local {
		means, _ := modelMeans(c, piece{mod: o.Mod, name: o.Name})
		types, deep = modelMeasure(t, c, typed(t, means), known)
	} else {
		for _, u := range o.Subs {
			n, d := modelMeasure(t, c, u, known)
			types, deep = types+n, max(deep, d)
		}
		types, deep = min(types+1, 1<<40), deep+1
	}
	known[s] = [2]int{types, deep}
	return types, deep
}

// modelExpand puts texts in for texts, till no Local is there.
func modelExpand(t *testing.T, c call) (string, api.Code) {
	t.Helper()
	if scope.Check(c.m) != nil || !kind.May(c.t) || !ident.Small(c.pkg) || c.major < 1 || c.major > 999999999 || len(c.env) > 100 {
		return "", api.ErrArg
	}
	if code := modelMissing(t, c); code != 0 {
		return "", code
	}
	if types, deep := modelMeasure(t, c, c.t, map[string][2]int{}); types > 500 || deep > 32 {
		return "", api.ErrLarge
	}
	s := textOf(c.t)
	for {
		l := modelTokens(t, s)
		locals := modelLocals(l)
		if len(locals) == 0 {
			return textOf(typed(t, s)), 0
		}
		for _, p := range slices.Backward(locals) {
			means, _ := modelMeans(c, p)
			l = slices.Replace(l, p.at, p.at+p.size, modelTokens(t, means)...)
		}
		s = lex.Join(l)
	}
}

func TestExample(t *testing.T) {
	want(t, "alias A = List(T) opaque T", nil, "A", "List(<p 1 m T>)")
}

// Of each Kind, and of each place in it: all else stays as it is.
func TestKinds(t *testing.T) {
	env := []api.Iface{iface(t, "q", 2, "n", "U = {u: <q 2 n U>}")}
	const s = "import q 2 n as r opaque T hidden H alias A = List(T) alias B = (A, r.U) -> H val v : A"
	for o, text := range map[string]string{
		"Int": "Int", "Text": "Text", "Bool": "Bool", "{}": "{}", "<p 1 m T>": "<p 1 m T>", "<p 1 m Nowhere>": "<p 1 m Nowhere>", "<r 1 r U>": "<r 1 r U>",
		"T": "<p 1 m T>", "A": "List(<p 1 m T>)", "r.U": "{u: <q 2 n U>}",
		"List(T)": "List(<p 1 m T>)", "List(A)": "List(List(<p 1 m T>))", "{a: T, t: A}": "{a: <p 1 m T>, t: List(<p 1 m T>)}", "[A: T, T: A]": "[A: <p 1 m T>, T: List(<p 1 m T>)]",
		"() -> T": "() -> <p 1 m T>", "(T) -> A": "(<p 1 m T>) -> List(<p 1 m T>)", "(A, Int, T) -> r.U": "(List(<p 1 m T>), Int, <p 1 m T>) -> {u: <q 2 n U>}",
		"{a: {b: [C: (List(T)) -> A]}}": "{a: {b: [C: (List(<p 1 m T>)) -> List(<p 1 m T>)]}}",
	} {
		want(t, strings.Replace(s, "alias B = (A, r.U) -> H ", "", 1), env, o, text)
	}
	// A Hidden one comes to its Open, too; but no alias, and no Val, may tell it.
	want(t, "hidden H", nil, "H", "<p 1 m H>")
	want(t, "hidden H opaque T", nil, "(H, T, List(H)) -> H", "(<p 1 m H>, <p 1 m T>, List(<p 1 m H>)) -> <p 1 m H>")
	wantError(t, s, env, "T", api.ErrArg)
	// The package's name, the major and the module's Name are those that are handed in.
	c := call{module(t, "opaque T alias A = {a: T}"), "p9", 999999999, nil, sample.Func(sample.Local("", "T"), sample.Local("", "A"))}
	c.m.Name = "m"
	wantType(t, c, "(<p9 999999999 m T>) -> {a: <p9 999999999 m T>}")
	c.m.Name, c.pkg, c.major = "other", "m", 1
	wantType(t, c, "(<m 1 other T>) -> {a: <m 1 other T>}")
	c.m.Name, c.pkg = strings.Repeat("m", 20), strings.Repeat("p", 20)
	wantType(t, c, "(<"+c.pkg+" 1 "+c.m.Name+" T>) -> {a: <"+c.pkg+" 1 "+c.m.Name+" T>}")
}

func TestAliases(t *testing.T) {
	want(t, "alias A = B alias B = C alias C = Int", nil, "A", "Int")
	want(t, "alias C = Int alias B = C alias A = B", nil, "(A, B) -> C", "(Int, Int) -> Int")
	want(t, "alias A = {a: B, b: C} alias B = (C) -> C alias C = List(D) opaque D", nil, "List(A)", "List({a: (List(<p 1 m D>)) -> List(<p 1 m D>), b: List(<p 1 m D>)})")
	want(t, "alias A = B opaque B val a : A val b : B", nil, "[A: A, B: B]", "[A: <p 1 m B>, B: <p 1 m B>]")
	want(t, "alias A = [A: {}] alias B = <p 1 m A>", nil, "(A) -> B", "([A: {}]) -> <p 1 m A>")
	// A chain of all declarations.
	var l []string
	for i := range api.MaxDecls - 1 {
		l = append(l, "alias A"+strconv.Itoa(i)+" = A"+strconv.Itoa(i+1))
	}
	slices.Reverse(l)
	want(t, strings.Join(l, " ")+" opaque A59", nil, "A0", "<p 1 m A59>")
	want(t, strings.Join(l, " ")+" alias A59 = {}", nil, "List(A0)", "List({})")
}

// The type is that of the environment's interface of the import's Pkg, Major and Mod.
func TestImports(t *testing.T) {
	env := []api.Iface{
		iface(t, "q", 1, "n", "T = Int"), iface(t, "q", 2, "n", "T = Text"), iface(t, "q", 1, "o", "T = Bool"), iface(t, "s", 1, "n", "T = {}"),
		iface(t, "p", 1, "m", "T = List(Int)"), iface(t, "r", 1, "r", "T = List(Text)"),
	}
	for s, text := range map[string]string{
		"import q 1 n as r": "Int", "import q 2 n as r": "Text", "import q 1 o as r": "Bool", "import s 1 n as r": "{}", "import p 1 m as r": "List(Int)", "import r 1 r as r": "List(Text)",
	} {
		want(t, s, env, "r.T", text)
		want(t, s+" opaque T", env, "(r.T) -> T", "("+text+") -> <p 1 m T>")
		want(t, s+" alias T = r.T", env, "(r.T) -> T", "("+text+") -> "+text)
		wantError(t, s, env, "r.U", api.ErrNone)
		wantError(t, s, nil, "r.T", api.ErrNone)
		wantError(t, s, env, "s.T", api.ErrName)
		wantError(t, s, env, "T", api.ErrName)
	}
	for _, s := range []string{"import q 3 n as r", "import s 2 n as r", "import s 1 o as r", "import n 1 q as r", "import q 1 m as r", "import m 1 m as r"} {
		wantError(t, s, env, "r.T", api.ErrNone)
	}
	// Two imports of one module; and a module's own name as an As.
	want(t, "import q 1 n as a import q 1 n as b import q 2 n as c", env, "(a.T, b.T) -> c.T", "(Int, Int) -> Text")
	want(t, "import s 1 n as m opaque T", env, "(m.T) -> T", "({}) -> <p 1 m T>")
	want(t, "import q 1 n as q import s 1 n as n", env, "(q.T) -> n.T", "(Int) -> {}")
	wantError(t, "import p 1 m as r opaque T", env, "m.T", api.ErrName)
	// What another module tells isn't looked into any more, whatever its names are.
	own := []api.Iface{iface(t, "q", 1, "n", "T = <q 1 n T>", "A = (<p 1 m A>, <q 1 n B>) -> <r 1 r A>", "B = [A: {b: <s 1 n T>}]")}
	want(t, "import q 1 n as r opaque A alias B = r.B", own, "(r.T, r.A, B) -> A", "(<q 1 n T>, (<p 1 m A>, <q 1 n B>) -> <r 1 r A>, [A: {b: <s 1 n T>}]) -> <p 1 m A>")
	// Vals are no types.
	vals := []api.Iface{{Pkg: "q", Major: 1, Mod: "n", Vals: []api.Named{{Name: "T", Type: sample.Int()}}}}
	wantError(t, "import q 1 n as r", vals, "r.T", api.ErrNone)
	vals[0].Types = []api.Named{{Name: "U", Type: sample.Int()}}
	wantError(t, "import q 1 n as r", vals, "(r.U) -> r.T", api.ErrNone)
	want(t, "import q 1 n as r", vals, "(r.U) -> r.U", "(Int) -> Int")
}

// The first interface of a module counts, and the first type of a name, if it has the type or not.
func TestFirstCounts(t *testing.T) {
	const s = "import q 1 n as r"
	a, b, none := iface(t, "q", 1, "n", "T = Int"), iface(t, "q", 1, "n", "T = Text", "U = Text"), iface(t, "q", 1, "n")
	other := iface(t, "q", 1, "o", "T = Bool", "U = Bool")
	want(t, s, []api.Iface{a, b}, "r.T", "Int")
	want(t, s, []api.Iface{b, a}, "r.T", "Text")
	want(t, s, []api.Iface{other, b, other, a}, "List(r.T)", "List(Text)")
	want(t, s, []api.Iface{b, a, none}, "r.U", "Text")
	wantError(t, s, []api.Iface{a, b}, "r.U", api.ErrNone)
	wantError(t, s, []api.Iface{none, b}, "r.T", api.ErrNone)
	wantError(t, s, []api.Iface{other, other}, "r.T", api.ErrNone)
	twice := iface(t, "q", 1, "n", "S = Bool", "T = Int", "T = Text", "S = {}")
	want(t, s, []api.Iface{twice}, "(r.S) -> r.T", "(Bool) -> Int")
	open := iface(t, "q", 1, "n", "T = U", "T = Int")
	wantError(t, s, []api.Iface{open}, "r.T", api.ErrNone)
	slices.Reverse(open.Types)
	want(t, s, []api.Iface{open}, "r.T", "Int")
}

// badTypes are some that may not be.
func badTypes() []api.Type {
	in := []api.Type{{Kind: api.List}}
	in[0].Subs = in
	shared := sample.Int()
	for range 40 {
		shared = sample.Func(shared, shared)
	}
	return []api.Type{{}, {Kind: -1}, {Kind: 10}, {Kind: api.Local}, sample.Local("", "t"), sample.Local("M", "T"), sample.Local("", "Int"), {Kind: api.Int, Name: "T"}, sample.List(api.Type{}),
		sample.Nested(32, sample.Int()), sample.Func(), sample.Func(slices.Repeat([]api.Type{sample.Int()}, 21)...), sample.Record("b a", sample.Int(), sample.Int()), sample.Open("p", 0, "m", "T"),
		{Kind: api.Local, Name: "T", Pkg: "p"}, {Kind: api.Variant}, sized(501), in[0], shared}
}

// sized is a plain type of so many types, 2 at least.
func sized(n int) api.Type { return padded(n, sample.Int()) }

// padded is a type of so many types, 2 at least, if one of them counts as one.
func padded(n int, one api.Type) api.Type {
	if n > 20 {
		return sample.Func(append(slices.Repeat([]api.Type{sample.Int()}, 18), padded(n-19, one))...)
	}
	return sample.Func(append(slices.Repeat([]api.Type{sample.Int()}, n-2), one)...)
}

// What the environment has must be plain.
func TestNotPlain(t *testing.T) {
	bad := append(badTypes(), sample.Local("", "T"), sample.Local("r", "T"), sample.List(sample.Local("", "U")), sample.Record("a b", sample.Int(), sample.List(sample.Local("n", "U"))))
	for _, o := range bad {
		env := []api.Iface{{Pkg: "q", Major: 1, Mod: "n", Types: []api.Named{{Name: "S", Type: sample.Int()}, {Name: "T", Type: o}, {Name: "U", Type: sample.Text()}}}}
		wantError(t, "import q 1 n as r opaque T opaque U", env, "r.T", api.ErrNone)
		wantError(t, "import q 1 n as r opaque T opaque U", env, "(r.S, r.U) -> List(r.T)", api.ErrNone)
		wantError(t, "import q 1 n as r opaque T alias U = {a: r.S, b: r.T}", env, "U", api.ErrNone)
		// What isn't named may be as it is.
		want(t, "import q 1 n as r opaque T alias U = {a: r.S, b: r.T}", env, "(r.S, T) -> r.U", "(Int, <p 1 m T>) -> Text")
	}
	for _, o := range []api.Type{sized(500), sample.Nested(31, sample.Record("")), sample.Variant("A", sample.Open("p", 1, "m", "T"))} {
		env := []api.Iface{{Pkg: "q", Major: 1, Mod: "n", Types: []api.Named{{Name: "T", Type: o}}}}
		want(t, "import q 1 n as r", env, "r.T", textOf(o))
	}
	// The interface's own fields, and its Vals, aren't asked for.
	odd := api.Iface{Pkg: "q", Major: 1, Mod: "n", Types: []api.Named{{Name: "t", Type: sample.Local("", "T")}, {Name: "Z", Type: sample.Int()}, {Name: "T", Type: sample.Int()}, {}}, Vals: []api.Named{{Name: "V", Type: bad[0]}, {}}}
	want(t, "import q 1 n as r", []api.Iface{{}, {Pkg: "Q", Major: -1, Types: odd.Types}, odd}, "r.T", "Int")
}

// ErrNone is of what t mentions, all in all, and of nothing else.
func TestNone(t *testing.T) {
	env := []api.Iface{iface(t, "q", 1, "n", "T = Int")}
	const s = "import q 1 n as r import q 9 n as gone alias A = B alias B = {a: C, b: T} alias C = [A: r.U] alias D = (r.T) -> gone.T opaque T alias E = List(r.T) val v : gone.T"
	for _, o := range []string{"A", "B", "C", "D", "List(A)", "(Int, T) -> D", "{a: E, b: B}", "gone.T", "r.U", "(E, T, r.T) -> gone.T"} {
		wantError(t, s, env, o, api.ErrNone)
	}
	want(t, s, env, "(E, T, r.T) -> Int", "(List(Int), <p 1 m T>, Int) -> Int")
	want(t, s, nil, "(T) -> Int", "(<p 1 m T>) -> Int")
	wantError(t, s, nil, "E", api.ErrNone)
}

func TestName(t *testing.T) {
	env := []api.Iface{iface(t, "q", 1, "n", "T = Int"), iface(t, "p", 1, "m", "T = Int", "Nowhere = Int")}
	for _, s := range []string{"", "opaque T", "import q 1 n as r val nowhere : r.T", "opaque Nowher opaque Nowhere0 opaque N"} {
		for _, o := range []string{"@", "List(@)", "(@) -> Int", "() -> @", "(Int, @, Int) -> Int", "{a: Int, b: @}", "[T: @]", "[A: Int, B: List(@)]"} {
			for _, name := range []string{"Nowhere", "n.T", "q.T", "m.T", "p.T", "nowhere.T", "rr.T"} {
				wantError(t, s, env, strings.ReplaceAll(o, "@", name), api.ErrName)
			}
		}
	}
}

func imports(n int) []api.Import {
	var l []api.Import
	for i := range n {
		l = append(l, sample.Import("q", 1+i, "n", "a"+strconv.Itoa(i)))
	}
	return l
}

// Each error of scope.Check is ErrArg.
func TestArgModule(t *testing.T) {
	good := of(t, "opaque T", nil, "T")
	wantType(t, good, "<p 1 m T>")
	for _, s := range []string{
		"opaque T opaque T", "val t : Int val t : Int opaque T", "import q 1 n as r import q 2 n as r opaque T", "opaque T val v : Nowhere", "opaque T alias A = r.T", "opaque T alias A = A",
		"opaque T alias A = B alias B = List(A)", "opaque T hidden H val h : H", "opaque T hidden H alias A = H", "alias T = T",
	} {
		wantError(t, s, nil, "T", api.ErrArg)
		wantError(t, s, nil, "Int", api.ErrArg)
	}
	var many []api.Decl
	for i := range api.MaxDecls + 1 {
		many = append(many, sample.Opaque("T"+strconv.Itoa(i)))
	}
	for _, m := range []api.Module{
		{}, {Name: "M"}, {Name: "as"}, {Name: strings.Repeat("m", 21)}, sample.Module("m", imports(21)), sample.Module("m", []api.Import{{}}), sample.Module("m", []api.Import{sample.Import("q", 0, "n", "r")}),
		sample.Module("m", nil, many...), sample.Module("m", nil, api.Decl{}), sample.Module("m", nil, sample.Opaque("t")), sample.Module("m", nil, sample.Val("v", sample.List(api.Type{}))),
		sample.Module("m", nil, api.Decl{Kind: api.Opaque, Name: "T", Type: sample.Int()}),
	} {
		wantCode(t, call{m, "p", 1, nil, sample.Int()}, api.ErrArg)
	}
	wantType(t, call{sample.Module("m", imports(20), many[:60]...), "p", 1, nil, sample.Local("", "T59")}, "<p 1 m T59>")
}

func TestArgType(t *testing.T) {
	for _, o := range badTypes() {
		wantCode(t, call{module(t, "opaque T"), "p", 1, nil, o}, api.ErrArg)
		wantCode(t, call{module(t, "opaque T"), "p", 1, nil, sample.Func(sample.Local("", "T"), o)}, api.ErrArg)
		wantCode(t, call{sample.Module("m", nil, sample.Alias("A", o)), "p", 1, nil, sample.Local("", "A")}, api.ErrArg)
	}
}

func TestArgRest(t *testing.T) {
	c := of(t, "import q 1 n as r opaque T", slices.Repeat([]api.Iface{iface(t, "q", 1, "n", "T = Int")}, 100), "(r.T) -> T")
	wantType(t, c, "(Int) -> <p 1 m T>")
	for _, pkg := range []string{"", "P", "1", "1p", "p_", "pQ", "p ", "é", strings.Repeat("p", 21), "as", "alias", "dep", "hidden", "import", "is", "module", "opaque", "package", "use", "val", "version", "p\x00"} {
		bad := c
		bad.pkg = pkg
		wantCode(t, bad, api.ErrArg)
	}
	for _, pkg := range []string{"p", "q", "m", "z9", strings.Repeat("z", 20), "let"} {
		good := c
		good.pkg = pkg
		wantType(t, good, "(Int) -> <"+pkg+" 1 m T>")
	}
	for _, major := range []int{0, -1, api.MaxPart + 1, -1 << 63, 1<<63 - 1} {
		bad := c
		bad.major = major
		wantCode(t, bad, api.ErrArg)
		bad.t = sample.Int()
		wantCode(t, bad, api.ErrArg)
	}
	for _, major := range []int{1, 2, api.MaxPart - 1, api.MaxPart} {
		good := c
		good.major = major
		wantType(t, good, "(Int) -> <p "+strconv.Itoa(major)+" m T>")
	}
	for _, n := range []int{101, 102, 100000} {
		bad := c
		bad.env = slices.Repeat(c.env[:1], n)
		wantCode(t, bad, api.ErrArg)
		bad.t = sample.Int()
		wantCode(t, bad, api.ErrArg)
	}
	// The last one of all that there may be.
	last := c
	last.env = append(slices.Repeat([]api.Iface{{}}, 99), c.env[0])
	wantType(t, last, "(Int) -> <p 1 m T>")
}

// ways are all ways to name a type: by an alias, an alias of it, an import, an alias of that.
func ways(t *testing.T, o api.Type) (call, []api.Type) {
	t.Helper()
	c := of(t, "import q 1 n as r alias A = B alias B = Int alias C = r.P", []api.Iface{{Pkg: "q", Major: 1, Mod: "n", Types: []api.Named{{Name: "P", Type: o}}}}, "Int")
	c.m.Decls[1].Type = o
	return c, []api.Type{sample.Local("", "A"), sample.Local("", "B"), sample.Local("r", "P"), sample.Local("", "C")}
}

// What t comes to may have 500 types, and 20 Subs, and be 32 deep.
func TestLarge(t *testing.T) {
	wantLarge := func(c call, large bool) {
		t.Helper()
		if code := wantHold(t, c); code != 0 && code != api.ErrLarge || (code == api.ErrLarge) != large {
			t.Errorf("%.300s: error %d; want ErrLarge: %t", c, code, large)
		}
	}
	for n := 2; n <= 500; n++ {
		if got := kind.Size(sized(n)); got != n {
			t.Fatalf("sized(%d) has %d types", n, got)
		}
	}
	for _, size := range []int{2, 3, 20, 21, 250, 251, 499} {
		c, all := ways(t, sized(size))
		for _, name := range all {
			// Neither t nor what it names is too great itself.
			for n := max(499, size+1); n <= min(503, size+499); n++ {
				c.t = padded(n-size+1, name)
				wantLarge(c, n > 500)
			}
			c.t = name
			wantLarge(c, false)
		}
	}
	for depth := 1; depth <= 32; depth++ {
		c, all := ways(t, sample.Nested(depth-1, sample.Int()))
		for _, name := range all {
			for n := max(30, depth); n <= min(34, depth+31); n++ {
				c.t = sample.Nested(n-depth, name)
				wantLarge(c, n > 32)
				// Not the first branch alone is asked, nor the last one.
				if n > depth && depth < 32 {
					c.t = sample.Nested(n-depth-1, sample.Func(name, sample.Int(), sample.Record("")))
					wantLarge(c, n > 32)
					c.t = sample.Nested(n-depth-1, sample.Func(sample.Int(), name, sample.Int()))
					wantLarge(c, n > 32)
				}
			}
		}
	}
	// Named many times over it counts as often.
	for _, of := range []struct {
		times, size int
		large       bool
	}{{20, 24, false}, {20, 25, true}, {10, 49, false}, {10, 50, true}, {1, 499, false}, {1, 500, true}, {2, 249, false}, {2, 250, true}} {
		c, all := ways(t, sized(of.size))
		for _, name := range all {
			c.t = sample.Func(slices.Repeat([]api.Type{name}, of.times)...)
			wantLarge(c, of.large)
		}
		if of.times > 3 {
			c.t = sample.Func(slices.Repeat(all, 5)[:of.times]...)
			wantLarge(c, of.large)
		}
	}
	// What isn't come to isn't asked: B alone is too great.
	c := of(t, "import q 1 n as r alias A = Int alias B = (A) -> Int opaque T", nil, "(A, T) -> A")
	c.m.Decls[1].Type = sample.Nested(31, sample.Local("", "A"))
	wantLarge(c, false)
	c.t = sample.Local("", "B")
	wantLarge(c, false)
	c.m.Decls[0].Type = sample.List(sample.Int())
	wantLarge(c, true)
	c.t = sample.Func(sample.Local("", "A"), sample.Local("", "T"))
	wantLarge(c, false)
}

// A few aliases may come to more types than can be gone through, or to a depth that is far beyond; and all has an end.
func TestEnds(t *testing.T) {
	for _, subs := range []int{1, 2, 20} {
		for _, last := range []api.Decl{sample.Opaque("A59"), sample.Alias("A59", sample.Record("")), sample.Alias("A59", sample.Local("r", "T"))} {
			var l []api.Decl
			for i := range api.MaxDecls - 1 {
				l = append(l, sample.Alias("A"+strconv.Itoa(i), sample.Func(slices.Repeat([]api.Type{sample.Local("", "A"+strconv.Itoa(i+1))}, subs)...)))
			}
			c := call{sample.Module("m", imports(1), append(l, last)...), "p", 1, []api.Iface{iface(t, "q", 1, "n", "T = Int")}, sample.Local("", "A0")}
			c.m.Imports[0].As = "r"
			wantError := func(from int, code api.Code) {
				t.Helper()
				c.t = sample.Local("", "A"+strconv.Itoa(from))
				if got := wantHold(t, c); got != code {
					t.Errorf("%d of each, from A%d on: error %d; want %d", subs, from, got, code)
				}
			}
			wantError(0, api.ErrLarge)
			wantError(59, 0)
			wantError(map[int]int{1: 28, 2: 52, 20: 57}[subs], 0)
			wantError(map[int]int{1: 27, 2: 51, 20: 56}[subs], api.ErrLarge)
			// ErrNone is ahead of ErrLarge.
			if last.Type.Kind == api.Local {
				c.env = nil
				wantError(0, api.ErrNone)
			}
		}
	}
	// As many names as there may be, of great types.
	var l []api.Decl
	big := sized(500)
	var types []api.Named
	for i := range api.MaxDecls {
		var subs []api.Type
		for j := range 19 {
			var of []api.Type
			for k := range 20 {
				of = append(of, sample.Local("r", "T"+strconv.Itoa((i*19+j)*20+k)))
				types = append(types, api.Named{Name: of[k].Name, Type: big})
			}
			subs = append(subs, sample.Func(of...))
		}
		l = append(l, sample.Alias("A"+strconv.Itoa(i), sample.Func(append(subs, sample.Local("", "A"+strconv.Itoa(i+1)))...)))
	}
	l[59].Type.Subs[19] = sample.Int()
	m := sample.Module("m", []api.Import{sample.Import("q", 1, "n", "r")}, l...)
	env := slices.Repeat([]api.Iface{{Pkg: "q", Major: 2, Mod: "n"}}, 100)
	env[99] = api.Iface{Pkg: "q", Major: 1, Mod: "n", Types: types}
	wantCode(t, call{m, "p", 1, env, sample.Local("", "A0")}, api.ErrLarge)
	wantType(t, call{m, "p", 1, env, sample.Local("r", types[len(types)-1].Name)}, textOf(sized(500)))
	types[len(types)-1].Type = sized(501)
	wantCode(t, call{m, "p", 1, env, sample.Local("", "A0")}, api.ErrNone)
}

// Of several errors the one is told that P8.2 names first, wherever they stand.
func TestWhichFirst(t *testing.T) {
	order := []api.Code{api.ErrArg, api.ErrName, api.ErrNone, api.ErrLarge, 0}
	parts := []struct {
		text string
		code api.Code
	}{{"Nowhere", api.ErrName}, {"s.T", api.ErrName}, {"r.U", api.ErrNone}, {"r.O", api.ErrNone}, {"N", api.ErrNone}, {"L", api.ErrLarge}, {"r.T", 0}, {"T", 0}}
	c := of(t, "import q 1 n as r opaque T alias L = Int alias N = {a: T, b: List(r.U)}", []api.Iface{iface(t, "q", 1, "n", "T = Int", "O = T")}, "Int")
	c.m.Decls[1].Type = sample.Nested(31, sample.Local("", "L0"))
	c.m.Decls = append(c.m.Decls, sample.Alias("L0", sample.List(sample.Int())))
	for _, x := range parts {
		for _, y := range parts {
			for _, z := range parts {
				c.t = typed(t, "(List("+x.text+"), "+y.text+") -> "+z.text)
				code := order[min(slices.Index(order, x.code), slices.Index(order, y.code), slices.Index(order, z.code))]
				if got := wantHold(t, c); got != code {
					t.Errorf("%s: error %d; want %d", c, got, code)
				}
				for n := range 5 {
					bad := c
					switch n {
					case 0:
						bad.m.Decls = append(slices.Clip(c.m.Decls), sample.Opaque("T"))
					case 1:
						bad.t = sample.Func(c.t, sample.Func())
					case 2:
						bad.pkg = "P"
					case 3:
						bad.major = 0
					case 4:
						bad.env = append(slices.Clip(c.env), make([]api.Iface, 100)...)
					}
					wantCode(t, bad, api.ErrArg)
				}
			}
		}
	}
}

// P8.1.
func TestFind(t *testing.T) {
	wantFound := func(env []api.Iface, i api.Import, at int) {
		t.Helper()
		want := api.Iface{}
		if at >= 0 {
			want = env[at]
		}
		if got, has := expand.Find(env, i); has != (at >= 0) || !reflect.DeepEqual(got, want) {
			t.Errorf("Find(%v) = %v, %t; want that of number %d", i, got, has, at)
		}
	}
	env := []api.Iface{iface(t, "q", 1, "n", "T = Int"), iface(t, "q", 2, "n"), iface(t, "q", 1, "n2", "T = {a: U}"), iface(t, "q2", 1, "n", "A = Int", "B = (m.T) -> Int"), iface(t, "q", 1, "n", "T = Bool"), iface(t, "q", 2, "n", "T = Bool"), {Pkg: "n", Major: 1, Mod: "q", Vals: []api.Named{{Name: "v", Type: sample.List(sample.Text())}}}}
	for _, as := range []string{"r", "n", "q", "", "R"} {
		wantFound(env, sample.Import("q", 1, "n", as), 0)
		wantFound(env, sample.Import("q", 2, "n", as), 1)
		wantFound(env, sample.Import("q", 1, "n2", as), 2)
		wantFound(env, sample.Import("q2", 1, "n", as), 3)
		wantFound(env[1:], sample.Import("q", 1, "n", as), 3)
		wantFound(env, sample.Import("n", 1, "q", as), 6)
		for _, i := range []api.Import{sample.Import("q", 3, "n", as), sample.Import("q2", 2, "n", as), sample.Import("q2", 1, "n2", as), sample.Import("n", 1, "n", as), sample.Import("q", 1, "q", as), sample.Import("", 0, "", as), sample.Import("q1", 0, "n", as), sample.Import("q", -1, "n", as)} {
			wantFound(env, i, -1)
		}
		wantFound(nil, sample.Import("q", 1, "n", as), -1)
		wantFound(env[:0], sample.Import("q", 1, "n", as), -1)
	}
	// It asks for nothing but that: not what may be, nor how many there are.
	odd := []api.Iface{{Pkg: "Q", Major: -7, Mod: "", Types: []api.Named{{Name: "t", Type: sample.Func()}, {}}, Vals: []api.Named{{Name: "V", Type: api.Type{Kind: 77, Names: []string{"b", "a"}}}}}, {}}
	wantFound(odd, api.Import{Pkg: "Q", Major: -7}, 0)
	wantFound(odd, api.Import{}, 1)
	wantFound(append(slices.Repeat(env[1:2], 1000), env[0]), sample.Import("q", 1, "n", "r"), 1000)
	for _, o := range badTypes()[:15] {
		odd[0].Vals = append(odd[0].Vals, api.Named{Name: "v", Type: o})
	}
	wantFound(odd, api.Import{Pkg: "Q", Major: -7}, 0)
}

func TestOf(t *testing.T) {
	wantOf := func(l []api.Named, name string, at int) {
		t.Helper()
		want := api.Type{}
		if at >= 0 {
			want = l[at].Type
		}
		if got, has := expand.Of(l, name); has != (at >= 0) || !reflect.DeepEqual(got, want) {
			t.Errorf("Of(%q) = %v, %t; want that of number %d", name, got, has, at)
		}
	}
	l := iface(t, "q", 1, "n", "T = Int", "a = {a: T, b: List(m.T)}", "T = Text", "U = Bool", "Tt = {}", "U = Int", "t = <p 1 m T>", "a = Int", "Z = [A: Int]").Types
	for name, at := range map[string]int{"T": 0, "a": 1, "U": 3, "Tt": 4, "t": 6, "Z": 8, "A": -1, "": -1, "TT": -1, "T ": -1, "b": -1, "Int": -1} {
		wantOf(l, name, at)
		wantOf(nil, name, -1)
		wantOf(l[:0], name, -1)
	}
	wantOf(l[1:], "T", 1)
	wantOf(l[4:], "U", 1)
	wantOf([]api.Named{{}, {Type: sample.Int()}}, "", 0)
	for i, o := range badTypes()[:15] {
		wantOf([]api.Named{{Name: "A", Type: sample.Int()}, {Name: "a b", Type: o}, {Name: "a b", Type: sample.Int()}}, "a b", 1)
		if i == 0 {
			continue
		}
		wantOf([]api.Named{{Name: "T"}, {Name: "T", Type: o}}, "T", 0)
	}
}

// P1: interfaces of types that lie in themselves, or share their lists without end.
func TestFindEnds(t *testing.T) {
	bad := badTypes()[15:]
	env := []api.Iface{{Pkg: "q", Major: 1, Mod: "n"}}
	for _, o := range bad {
		env[0].Types = append(env[0].Types, api.Named{Name: "T" + strconv.Itoa(len(env[0].Types)), Type: o})
		env[0].Vals = append(env[0].Vals, api.Named{Name: "v", Type: sample.List(o)})
	}
	x, has := expand.Find(env, sample.Import("q", 1, "n", "r"))
	if !has || len(x.Types) != len(bad) || len(x.Vals) != len(bad) {
		t.Fatal(has, len(x.Types), len(x.Vals))
	}
	for i, n := range x.Types {
		o, has := expand.Of(x.Types, n.Name)
		if !has || kind.May(o) || o.Kind != bad[i].Kind || len(o.Subs) != len(bad[i].Subs) || n.Name != env[0].Types[i].Name || x.Vals[i].Type.Subs[0].Kind != o.Kind {
			t.Errorf("Of(%s) = one of Kind %d, %t", n.Name, o.Kind, has)
		}
	}
}

func cloneNamed(l []api.Named) []api.Named {
	l = slices.Clone(l)
	for i := range l {
		l[i].Type = sample.CloneType(l[i].Type)
	}
	return l
}

func cloneCall(c call) call {
	c.m, c.t, c.env = sample.CloneModule(c.m), sample.CloneType(c.t), slices.Clone(c.env)
	for i, x := range c.env {
		c.env[i].Types, c.env[i].Vals = cloneNamed(x.Types), cloneNamed(x.Vals)
	}
	return c
}

// great is a call of all that there is, which comes to a type.
func great(t *testing.T) call {
	t.Helper()
	c := of(t, "import q 1 n as r import s 2 o as u opaque Tt alias Bb = {aa: Tt, bb: (Aa) -> r.Xx} alias Aa = [Aa: Int, Bb: List(Tt)] val vv : (Bb) -> Tt alias Cc = u.Yy", []api.Iface{iface(t, "q", 1, "n", "Ww = Int", "Xx = {xx: <q 1 n Zz>, yy: List(Int)}"), iface(t, "s", 2, "o", "Yy = (Text, {zz: <q 1 n Zz>}) -> [Aa: Bool]")}, "(Bb, {aa: Bb, bb: r.Xx}, r.Xx, Cc, u.Yy, Tt, {aa: <p 1 m Tt>}) -> Aa")
	c.env[0].Vals = []api.Named{{Name: "ww", Type: typed(t, "{aa: <q 1 n Zz>}")}}
	return c
}

// P8.3: what is handed in stays as it is, what lies behind it in its memory too.
func TestStays(t *testing.T) {
	c := great(t)
	wantHold(t, c)
	behind := func(l []api.Type) []api.Type { return append(l, sample.Local("", "Behind"))[:len(l)] }
	c.t.Subs = behind(c.t.Subs)
	c.m.Decls[1].Type.Subs = behind(c.m.Decls[1].Type.Subs)
	c.env[0].Types[1].Type.Subs = behind(c.env[0].Types[1].Type.Subs)
	calls := []call{c, {c.m, "P", 1, c.env, c.t}, {c.m, "p", 1, c.env[:1], c.t}, {c.m, "p", 1, c.env, sample.Func(c.t, sample.Local("", "Nowhere"))}, {c.m, "p", 1, c.env, sample.Func(slices.Repeat([]api.Type{c.t}, 20)...)}}
	for n, code := range []api.Code{0, api.ErrArg, api.ErrNone, api.ErrName, api.ErrLarge} {
		was := cloneCall(calls[n])
		_, err := expand.Expand(calls[n].m, calls[n].pkg, calls[n].major, calls[n].env, calls[n].t)
		if code == 0 && err != nil || code != 0 && err != error(code) {
			t.Errorf("call %d: %v", n, err)
		}
		expand.Find(calls[n].env, c.m.Imports[1])
		expand.Of(calls[n].env[0].Types, "Xx")
		if !reflect.DeepEqual(calls[n], was) {
			t.Errorf("call %d: what was handed in was changed", n)
		}
	}
	for _, l := range [][]api.Type{c.t.Subs, c.m.Decls[1].Type.Subs, c.env[0].Types[1].Type.Subs} {
		if l[:len(l)+1][len(l)].Name != "Behind" {
			t.Error("what lies behind a list was changed")
		}
	}
}

// memory is where each text, of one byte at least, and each list of a type lies.
func memory(o api.Type) []uintptr {
	var l []uintptr
	for _, s := range append(slices.Clone(o.Names), o.Pkg, o.Mod, o.Name) {
		if s != "" {
			l = append(l, uintptr(unsafe.Pointer(unsafe.StringData(s))))
		}
	}
	if len(o.Names) > 0 {
		l = append(l, uintptr(unsafe.Pointer(&o.Names[0])))
	}
	if len(o.Subs) > 0 {
		l = append(l, uintptr(unsafe.Pointer(&o.Subs[0])))
	}
	for _, s := range o.Subs {
		l = append(l, memory(s)...)
	}
	return l
}

func memoryOfNamed(l []api.Named) []uintptr {
	var all []uintptr
	if len(l) > 0 {
		all = append(all, uintptr(unsafe.Pointer(&l[0])))
	}
	for _, n := range l {
		all = append(all, append(memory(n.Type), uintptr(unsafe.Pointer(unsafe.StringData(n.Name))))...)
	}
	return all
}

func memoryOfIface(x api.Iface) []uintptr {
	return slices.Concat(memory(api.Type{Pkg: x.Pkg, Mod: x.Mod}), memoryOfNamed(x.Types), memoryOfNamed(x.Vals))
}

// wantApart holds that an answer's lists and texts are no others', nor one another's.
func wantApart(t *testing.T, what string, answer, others []uintptr) {
	t.Helper()
	once := map[uintptr]int{}
	for _, at := range answer {
		if once[at]++; once[at] > 1 {
			t.Errorf("%s: two of an answer's lists, or texts, are one", what)
		}
		if slices.Contains(others, at) {
			t.Errorf("%s: an answer shares memory with something", what)
		}
	}
}

func TestNewMemory(t *testing.T) {
	c := great(t)
	c.m.Name, c.pkg = strings.Clone("mm"), strings.Clone("pp")
	handed := append(memory(c.t), memory(api.Type{Pkg: c.pkg, Mod: c.m.Name})...)
	for _, d := range c.m.Decls {
		handed = append(handed, memory(api.Type{Name: d.Name, Subs: []api.Type{d.Type}})...)
	}
	for _, x := range c.env {
		handed = append(handed, memoryOfIface(x)...)
	}
	for _, o := range append(slices.Clone(c.t.Subs), c.t, typed(t, "<pp 1 mm Tt>"), typed(t, "{aa: Text, bb: List(Bool)}")) {
		one, err := expand.Expand(c.m, c.pkg, 1, c.env, o)
		two, _ := expand.Expand(c.m, c.pkg, 1, c.env, o)
		if err != nil {
			t.Fatal(err)
		}
		wantApart(t, textOf(o), memory(one), slices.Concat(handed, memory(o), memory(two)))
	}
	for i, x := range c.env {
		one, _ := expand.Find(c.env, c.m.Imports[i])
		two, _ := expand.Find(c.env, c.m.Imports[i])
		wantApart(t, "Find", memoryOfIface(one), slices.Concat(handed, memoryOfIface(two)))
		for _, n := range x.Types {
			one, _ := expand.Of(x.Types, n.Name)
			two, _ := expand.Of(x.Types, n.Name)
			wantApart(t, "Of", memory(one), slices.Concat(handed, memory(two)))
		}
	}
	// Lists that are shared in what is handed in are so in no answer.
	shared := sample.Record("aa bb", sample.List(sample.Open("qq", 1, "nn", "Tt")), sample.Local("", "Aa"))
	plain := sample.Record("aa bb", sample.List(sample.Int()), sample.Open("qq", 1, "nn", "Tt"))
	m := sample.Module("m", []api.Import{sample.Import("q", 1, "n", "r")}, sample.Alias("Aa", plain), sample.Alias("Bb", sample.Func(shared, shared, plain)))
	env := []api.Iface{{Pkg: "q", Major: 1, Mod: "n", Types: []api.Named{{Name: "Xx", Type: plain}, {Name: "Yy", Type: sample.Func(plain, plain)}}, Vals: []api.Named{{Name: "xx", Type: plain}}}}
	got, err := expand.Expand(m, "p", 1, env, sample.Func(shared, sample.Local("", "Bb"), shared, sample.Local("r", "Xx"), sample.Local("r", "Xx"), sample.Local("r", "Yy"), plain))
	if err != nil {
		t.Fatal(err)
	}
	wantApart(t, "shared lists", memory(got), nil)
	x, _ := expand.Find(env, m.Imports[0])
	wantApart(t, "shared lists", memoryOfIface(x), nil)
	y, _ := expand.Of(env[0].Types, "Yy")
	wantApart(t, "shared lists", memory(y), nil)
}

// Nothing is kept from one call to the next.
func TestKeepsNothing(t *testing.T) {
	one := of(t, "import q 1 n as r opaque T alias A = List(r.T)", []api.Iface{iface(t, "q", 1, "n", "T = Int")}, "(A, r.T) -> T")
	two := of(t, "import q 2 n as r hidden T alias A = r.T", []api.Iface{iface(t, "q", 2, "n", "T = Text")}, "(A, r.T) -> T")
	for range 3 {
		wantType(t, one, "(List(Int), Int) -> <p 1 m T>")
		wantType(t, two, "(Text, Text) -> <p 1 m T>")
		none := one
		none.env = two.env
		wantCode(t, none, api.ErrNone)
		none.m = module(t, "import q 2 n as r")
		wantCode(t, none, api.ErrName)
	}
}

func decls(t *testing.T, lines string) []api.Decl {
	t.Helper()
	var l []api.Decl
	for _, s := range strings.Split(lines, ";") {
		l = append(l, module(t, s).Decls...)
	}
	return l
}

// All modules of a few declarations, with some types and some environments.
func TestAllSmall(t *testing.T) {
	menu := decls(t, "opaque T; opaque U; hidden T; hidden V; alias T = Int; alias T = U; alias T = r.T; alias T = s.U; alias U = T; alias U = List(V); alias U = {a: T, b: V}; alias V = r.U; alias V = (V) -> T; alias V = (T) -> U; val t : T; val u : (U) -> [T: r.T]; val v : s.V")
	var types []api.Type
	for _, s := range []string{"Int", "T", "U", "V", "r.T", "r.U", "s.U", "t.T", "List(T)", "(U) -> V", "{a: r.T, b: U}", "[T: V]", "(r.V) -> T"} {
		types = append(types, typed(t, s))
	}
	a, b, loose := iface(t, "q", 1, "n", "T = Int", "U = <q 1 n U>"), iface(t, "q", 2, "n", "T = <q 2 n T>", "U = List(Bool)", "V = {}"), iface(t, "q", 1, "n", "T = U", "U = Int")
	envs := [][]api.Iface{nil, {a}, {b, a}, {b, loose, a}, {a, b, loose}}
	found := map[api.Code]int{}
	var walk func(m api.Module)
	walk = func(m api.Module) {
		for i, o := range types {
			found[wantHold(t, call{m, "p", 1, envs[i%4], o})]++
			found[wantHold(t, call{m, "p", 1, envs[4], o})]++
		}
		if len(m.Decls) == 3 || scope.Check(m) == error(api.ErrArg) {
			return
		}
		for _, d := range menu {
			walk(sample.Module("m", m.Imports, append(slices.Clip(m.Decls), d)...))
		}
	}
	walk(sample.Module("m", []api.Import{sample.Import("q", 1, "n", "r"), sample.Import("q", 2, "n", "s")}))
	for _, code := range []api.Code{0, api.ErrArg, api.ErrName, api.ErrNone} {
		if found[code] < 100 {
			t.Errorf("error %d was told %d times", code, found[code])
		}
	}
}

// anyType is of few parts, the same ones at each run; its Locals are of these names.
func anyType(r *rand.Rand, levels int, locals []string) api.Type {
	if levels == 1 || r.Intn(3) == 0 {
		if len(locals) == 0 || r.Intn(4) == 0 {
			return []api.Type{sample.Int(), sample.Text(), sample.Record(""), sample.Open("p", 1, "m", "A0")}[r.Intn(4)]
		}
		mod, name, has := strings.Cut(locals[r.Intn(len(locals))], ".")
		if !has {
			return sample.Local("", mod)
		}
		return sample.Local(mod, name)
	}
	s := func() api.Type { return anyType(r, levels-1, locals) }
	switch r.Intn(4) {
	case 0:
		return sample.List(s())
	case 1:
		return sample.Record("a b", s(), s())
	case 2:
		return sample.Variant("A0 A1", s(), s())
	}
	return sample.Func(s(), s(), s(), s(), s())
}

// anyCall is one of a module with no fault, the same ones at each run; of some it leads to an error, or may do so.
func anyCall(r *rand.Rand) call {
	c := call{m: sample.Module("m", imports(1+r.Intn(5))), pkg: "p", major: 1 + r.Intn(3)}
	var there []string
	for i := range c.m.Imports {
		c.m.Imports[i].Major = 1 + r.Intn(3)
		there = append(there, "a"+strconv.Itoa(i)+".T0", "a"+strconv.Itoa(i)+".T1")
	}
	for major := 1; major <= 3 && r.Intn(12) > 0; major++ {
		x := api.Iface{Pkg: "q", Major: major, Mod: "n"}
		for i := range 2 + r.Intn(3) {
			x.Types = append(x.Types, api.Named{Name: "T" + strconv.Itoa(i%2), Type: anyType(r, 1+r.Intn(4), []string{"T", "m.T"}[:r.Intn(20)/18])})
		}
		c.env = append(c.env, x)
	}
	for i := range r.Intn(8) {
		name := "A" + strconv.Itoa(i)
		switch r.Intn(4) {
		case 0:
			c.m.Decls = append(c.m.Decls, sample.Opaque(name))
			there = append(there, name)
		case 1:
			c.m.Decls = append(c.m.Decls, sample.Val("a"+name[1:], anyType(r, 1+r.Intn(3), there)))
		default:
			c.m.Decls = append(c.m.Decls, sample.Alias(name, anyType(r, 1+r.Intn(6), there)))
			there = append(there, name)
		}
	}
	r.Shuffle(len(c.m.Decls), func(i, j int) { c.m.Decls[i], c.m.Decls[j] = c.m.Decls[j], c.m.Decls[i] })
	if r.Intn(10) == 0 {
		there = append(there, "A9", "a9.T", "m.T0")
	}
	c.t = anyType(r, 1+r.Intn(6), there)
	return c
}

func TestMany(t *testing.T) {
	r := rand.New(rand.NewSource(8))
	found := map[api.Code]int{}
	for range 6000 {
		c := anyCall(r)
		code := wantHold(t, c)
		found[code]++
		// An interface more behind changes nothing of what is told.
		c.env = append(slices.Clip(c.env), iface(t, "q", 1, "n", "T0 = List(Int)", "T1 = Text", "T2 = Int"))
		if again := wantHold(t, c); again != code && code != api.ErrNone {
			t.Errorf("%s: %d, and with an interface more %d", c, code, again)
		}
	}
	for _, code := range []api.Code{0, api.ErrName, api.ErrNone, api.ErrLarge} {
		if found[code] < 50 {
			t.Errorf("error %d was told %d times", code, found[code])
		}
	}
}

// P8.4: a plain type comes to itself, whatever is around it.
func TestPlain(t *testing.T) {
	r := rand.New(rand.NewSource(84))
	for range 2000 {
		c := anyCall(r)
		c.t = anyType(r, 1+r.Intn(6), nil)
		wantType(t, c, textOf(c.t))
	}
	for _, o := range []api.Type{sized(500), sized(499), sample.Nested(31, sample.Int()), sample.Record(""), {Kind: api.Record, Names: []string{}, Subs: []api.Type{}}} {
		wantType(t, call{module(t, "opaque T alias A = A0 opaque A0"), "p", 1, nil, o}, textOf(o))
	}
}

// Each place of a type's Subs, and each level, counts.
func TestEachPlace(t *testing.T) {
	c := of(t, "import q 1 n as r opaque T alias A = Bool", []api.Iface{iface(t, "q", 1, "n", "T = Text")}, "Int")
	for _, local := range []string{"T", "A", "r.T", "Nowhere", "r.U", "s.T"} {
		for n := 1; n <= api.MaxSubs; n++ {
			for i := range n {
				l := slices.Repeat([]string{"Int"}, n)
				l[i] = local
				var smalls, greats []string
				for j, s := range l {
					smalls, greats = append(smalls, "x"+string(rune('a'+j))+": "+s), append(greats, "X"+string(rune('a'+j))+": "+s)
				}
				for _, s := range []string{"(" + strings.Join(l[1:], ", ") + ") -> " + l[0], "{" + strings.Join(smalls, ", ") + "}", "[" + strings.Join(greats, ", ") + "]"} {
					c.t = typed(t, s)
					wantHold(t, c)
				}
			}
		}
		for n := range api.MaxDepth {
			c.t = sample.Nested(n, typed(t, local))
			wantHold(t, c)
		}
	}
}
