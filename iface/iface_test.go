package iface_test

import (
	"errors"
	"math/rand"
	"reflect"
	"slices"
	"strconv"
	"strings"
	"testing"
	"unsafe"

	"merlon/api"
	"merlon/ident"
	"merlon/iface"
	"merlon/kind"
	"merlon/sample"
	"merlon/scope"
	"merlon/syntax"
)

// module is the one of a text without its first two words.
func module(t *testing.T, s string) api.Module {
	t.Helper()
	m, err := syntax.Parse("module m " + s)
	if err != nil {
		t.Fatalf("Parse(%.300q): %v", s, err)
	}
	return m
}

func told(t *testing.T, s string) api.Iface {
	t.Helper()
	x, err := sample.Told(s)
	if err != nil {
		t.Fatalf("Told(%q): %v", s, err)
	}
	return x
}

func typeText(o api.Type) string {
	s, err := kind.Print(o)
	if err != nil {
		return "?"
	}
	return s
}

// text is what sample.Told reads.
func text(x api.Iface) string {
	var b strings.Builder
	b.WriteString(x.Pkg + " " + strconv.Itoa(x.Major) + " " + x.Mod)
	for _, n := range x.Types {
		b.WriteString("; " + n.Name + " = " + typeText(n.Type))
	}
	for _, n := range x.Vals {
		b.WriteString("; " + n.Name + " : " + typeText(n.Type))
	}
	return b.String()
}

// call is what Build is handed.
type call struct {
	m     api.Module
	pkg   string
	major int
	env   []api.Iface
}

// of is a call of package p 1, and of a module of that text.
func of(t *testing.T, s string, env ...api.Iface) call {
	t.Helper()
	return call{module(t, s), "p", 1, env}
}

func (c call) String() string {
	s, err := syntax.Print(c.m)
	if err != nil {
		s = "a module that may not be"
	}
	return "Build(" + strings.ReplaceAll(s, "\n", " ") + ", " + c.pkg + ", " + strconv.Itoa(c.major) + ", " + strconv.Itoa(len(c.env)) + " interfaces)"
}

func (c call) build() (api.Iface, error) { return iface.Build(c.m, c.pkg, c.major, c.env) }

// wantTold holds what is told, and that it may be: P10.4.
func wantTold(t *testing.T, c call, want string) {
	t.Helper()
	got, err := c.build()
	if err != nil || text(got) != want {
		t.Errorf("%.500s = %.500s, %v; want %.500s", c, text(got), err, want)
		return
	}
	if !iface.May(got) || !iface.Same(got, got) {
		t.Errorf("%.500s = %.500s, which may not be", c, text(got))
	}
}

func wantNothing(t *testing.T, c call, got api.Iface) {
	t.Helper()
	if !reflect.DeepEqual(got, api.Iface{}) {
		t.Errorf("%.500s told %.500s beside an error", c, text(got))
	}
}

// wantCode holds an error, itself.
func wantCode(t *testing.T, c call, code api.Code) {
	t.Helper()
	got, err := c.build()
	wantNothing(t, c, got)
	if err != error(code) {
		t.Errorf("%.500s: %v; want error %d", c, err, code)
	}
}

// wantSpot holds an error at a declaration, or an import.
func wantSpot(t *testing.T, c call, code api.Code, at int) {
	t.Helper()
	got, err := c.build()
	wantNothing(t, c, got)
	if !sample.IsSpot(err, code, at) {
		t.Errorf("%.500s: %v; want error %d at %d", c, err, code, at)
	}
}

// A second reading of the chapter.

// modelType is what a type comes to, looked up name by name; and whether all was found.
func modelType(c call, o api.Type) (api.Type, bool) {
	if o.Kind != api.Local {
		all := true
		o.Subs = slices.Clone(o.Subs)
		for i, s := range o.Subs {
			made, has := modelType(c, s)
			o.Subs[i], all = made, all && has
		}
		return o, all
	}
	if o.Mod == "" {
		for _, d := range c.m.Decls {
			if d.Name == o.Name && d.Kind == api.Alias {
				return modelType(c, d.Type)
			}
		}
		return sample.Open(c.pkg, c.major, c.m.Name, o.Name), true
	}
	for _, i := range c.m.Imports {
		for _, x := range c.env {
			if i.As != o.Mod || x.Pkg != i.Pkg || x.Major != i.Major || x.Mod != i.Mod {
				continue
			}
			for _, n := range x.Types {
				if n.Name == o.Name {
					return n.Type, kind.Plain(n.Type)
				}
			}
			return api.Type{}, false
		}
	}
	return api.Type{}, false
}

// modelBuild is what Build tells, as a text; or an error, and where: -1, if it is the error itself.
func modelBuild(c call) (string, api.Code, int) {
	if err := scope.Check(c.m); err != nil {
		var s *api.Spot
		if errors.As(err, &s) {
			return "", s.Err.(api.Code), s.At
		}
		return "", err.(api.Code), -1
	}
	if !ident.Small(c.pkg) || c.major < 1 || c.major > 999999999 || len(c.env) > 100 {
		return "", api.ErrArg, -1
	}
	var types, vals []string
	for i, d := range c.m.Decls {
		o := d.Type
		if d.Kind == api.Opaque {
			o = sample.Local("", d.Name)
		}
		if d.Kind == api.Hidden {
			continue
		}
		made, has := modelType(c, o)
		if !has {
			return "", api.ErrNone, i
		}
		if !kind.May(made) {
			return "", api.ErrLarge, i
		}
		if d.Kind == api.Val {
			vals = append(vals, d.Name+" : "+typeText(made))
		} else {
			types = append(types, d.Name+" = "+typeText(made))
		}
	}
	// A blank is below all bytes of names, so these rise as the names do.
	slices.Sort(types)
	slices.Sort(vals)
	return strings.Join(slices.Concat([]string{c.pkg + " " + strconv.Itoa(c.major) + " " + c.m.Name}, types, vals), "; "), 0, 0
}

// wantHold holds a call against the second reading alone.
func wantHold(t *testing.T, c call) api.Code {
	t.Helper()
	want, code, at := modelBuild(c)
	switch {
	case code == 0:
		wantTold(t, c, want)
	case at < 0:
		wantCode(t, c, code)
	default:
		wantSpot(t, c, code, at)
	}
	return code
}

func TestExample(t *testing.T) {
	wantTold(t, of(t, "opaque T val f : T"), "p 1 m; T = <p 1 m T>; f : <p 1 m T>")
}

func TestTold(t *testing.T) {
	env := []api.Iface{told(t, "q 2 n; S = Int; U = {u: <q 2 n U>}; s : Text"), told(t, "q 3 n; S = Bool")}
	for s, want := range map[string]string{
		"":                                       "p 1 m",
		"import q 2 n as r":                      "p 1 m",
		"import q 7 n as r opaque T":             "p 1 m; T = <p 1 m T>",
		"opaque T":                               "p 1 m; T = <p 1 m T>",
		"hidden H":                               "p 1 m",
		"alias A = {}":                           "p 1 m; A = {}",
		"val a : Int":                            "p 1 m; a : Int",
		"val a : {} alias A = Int":               "p 1 m; A = Int; a : {}",
		"alias A = B alias B = List(T) opaque T": "p 1 m; A = List(<p 1 m T>); B = List(<p 1 m T>); T = <p 1 m T>",
		"alias A = {a: T, b: B} opaque T alias B = (T) -> [A: T]":                 "p 1 m; A = {a: <p 1 m T>, b: (<p 1 m T>) -> [A: <p 1 m T>]}; B = (<p 1 m T>) -> [A: <p 1 m T>]; T = <p 1 m T>",
		"import q 2 n as r alias A = r.U val v : (r.S) -> A":                      "p 1 m; A = {u: <q 2 n U>}; v : (Int) -> {u: <q 2 n U>}",
		"import q 2 n as r import q 3 n as n alias S = r.S val s : n.S val t : S": "p 1 m; S = Int; s : Bool; t : Int",
		"hidden H opaque T val f : T":                                             "p 1 m; T = <p 1 m T>; f : <p 1 m T>",
		"hidden H hidden I alias A = Int":                                         "p 1 m; A = Int",
		"hidden H alias A = <p 1 m H> val v : <p 1 m H> val w : <p 1 m Z>":        "p 1 m; A = <p 1 m H>; v : <p 1 m H>; w : <p 1 m Z>",
		"alias A = <p 1 m A> val v : A":                                           "p 1 m; A = <p 1 m A>; v : <p 1 m A>",
		"val c : T val b : A val a : Int opaque T alias A = T":                    "p 1 m; A = <p 1 m T>; T = <p 1 m T>; a : Int; b : <p 1 m T>; c : <p 1 m T>",
	} {
		c := of(t, s, env...)
		wantTold(t, c, want)
		wantHold(t, c)
	}
}

// The package's name, the major and the module's are those that are handed in.
func TestOwnName(t *testing.T) {
	c := of(t, "opaque T val f : (T) -> List(T)")
	for _, pkg := range []string{"p", "q9", "m", strings.Repeat("z", 20)} {
		for _, major := range []int{1, 2, api.MaxPart} {
			for _, mod := range []string{"m", "p", strings.Repeat("y", 20)} {
				c.pkg, c.major, c.m.Name = pkg, major, mod
				own := "<" + pkg + " " + strconv.Itoa(major) + " " + mod + " T>"
				wantTold(t, c, pkg+" "+strconv.Itoa(major)+" "+mod+"; T = "+own+"; f : ("+own+") -> List("+own+")")
			}
		}
	}
}

// Names rise byte by byte, types' and Vals' each on their own.
func TestRising(t *testing.T) {
	greats := []string{"A", "A0", "A00", "A1", "A10", "A9", "AA", "AZ", "Aa", "Aaa", "Az", "B", "Int0", "Lis", "Lists", "Z", "Zz"}
	smalls := []string{"a", "a0", "a00", "a1", "a10", "a9", "aa", "az", "b", "int", "list", "z", "zz"}
	r := rand.New(rand.NewSource(10))
	for range 200 {
		m := sample.Module("m", nil)
		want := "p 1 m"
		for i, s := range greats {
			m.Decls = append(m.Decls, []api.Decl{sample.Opaque(s), sample.Alias(s, sample.Open("p", 1, "m", s))}[i%2])
			want += "; " + s + " = <p 1 m " + s + ">"
		}
		for _, s := range smalls {
			m.Decls = append(m.Decls, sample.Val(s, sample.Record(s, sample.Int())))
			want += "; " + s + " : {" + s + ": Int}"
		}
		m.Decls = append(m.Decls, sample.Hidden("Aab"), sample.Hidden("H"))
		r.Shuffle(len(m.Decls), func(i, j int) { m.Decls[i], m.Decls[j] = m.Decls[j], m.Decls[i] })
		wantTold(t, call{m, "p", 1, nil}, want)
	}
}

// permuted calls f with the list in all orders.
func permuted(l []api.Decl, f func([]api.Decl)) {
	if len(l) == 0 {
		f(nil)
	}
	for i := range l {
		permuted(slices.Concat(l[:i:i], l[i+1:]), func(rest []api.Decl) { f(slices.Insert(slices.Clone(rest), 0, l[i])) })
	}
}

// P10.4: declarations in another order make the same interface, if they make one.
func TestOrder(t *testing.T) {
	env := []api.Iface{told(t, "q 2 n; S = {s: <q 2 n S>}")}
	for _, s := range []string{
		"import q 2 n as r opaque T alias A = B alias B = List(T) val v : A val a : r.S",
		"import q 2 n as r hidden H alias C = {a: D, b: D} alias D = (r.S) -> E opaque E val c : C",
		"opaque A opaque B opaque C val a : A val b : B val c : C",
		"import q 2 n as r alias A = List(r.U) alias B = A opaque T val v : T",
		"hidden H alias A = H alias B = A opaque T val v : B",
		"alias A = Int alias B = A alias A = B val a : A",
	} {
		c := of(t, s, env...)
		first, err := c.build()
		permuted(c.m.Decls, func(l []api.Decl) {
			o := c
			o.m.Decls = l
			wantHold(t, o)
			got, other := o.build()
			if (err == nil) != (other == nil) || err == nil && !iface.Same(first, got) {
				t.Errorf("%s = %s, %v; in another order %s, %v", o, text(got), other, text(first), err)
			}
		})
	}
}

// P10.2: scope.Check's error, ahead of all others, as that tells it.
func TestScopeErrors(t *testing.T) {
	for _, x := range []struct {
		s    string
		code api.Code
		at   int
	}{
		{"import q 1 n as r import q 2 n as r opaque T opaque T", api.ErrTwice, 1},
		{"import q 1 n as r opaque T alias A = r.T hidden T", api.ErrTwice, 2},
		{"opaque T val t : T val u : T val t : Int", api.ErrTwice, 3},
		{"opaque T val v : Nowhere", api.ErrName, 1},
		{"alias A = r.T", api.ErrName, 0},
		{"opaque T val f : T alias A = {a: B} alias B = A", api.ErrDeep, 2},
		{"alias A = List(A)", api.ErrDeep, 0},
		{"hidden H val h : List(H)", api.ErrHidden, 1},
		{"import q 1 n as r val v : r.T hidden H alias A = B alias B = H", api.ErrHidden, 2},
	} {
		good := of(t, x.s, told(t, "q 1 n; U = Int"))
		wantSpot(t, good, x.code, x.at)
		wantHold(t, good)
		for _, bad := range []call{{good.m, "P", 1, nil}, {good.m, "p", 0, nil}, {good.m, "p", 1, make([]api.Iface, 101)}, {good.m, "", -1, make([]api.Iface, 101)}} {
			wantSpot(t, bad, x.code, x.at)
		}
	}
	for _, m := range []api.Module{
		{}, {Name: "M"}, {Name: "as"}, {Name: strings.Repeat("m", 21)}, sample.Module("m", []api.Import{{}}), sample.Module("m", make([]api.Import, 21)), sample.Module("m", nil, api.Decl{}),
		sample.Module("m", nil, sample.Opaque("t")), sample.Module("m", nil, sample.Val("T", sample.Int())), sample.Module("m", nil, sample.Val("v", api.Type{})), sample.Module("m", nil, api.Decl{Kind: 5, Name: "T"}),
	} {
		wantCode(t, call{m, "p", 1, nil}, api.ErrArg)
	}
}

func TestArg(t *testing.T) {
	good := of(t, "import q 1 n as r opaque T val f : (r.T) -> T", slices.Repeat([]api.Iface{told(t, "q 1 n; T = Int")}, 100)...)
	wantTold(t, good, "p 1 m; T = <p 1 m T>; f : (Int) -> <p 1 m T>")
	// Ahead of what expand tells, and of a module without declarations, too.
	none, empty := of(t, "import q 1 n as r alias A = r.Gone", good.env...), of(t, "")
	wantSpot(t, none, api.ErrNone, 0)
	for _, c := range []call{good, none, empty} {
		for _, pkg := range []string{"", "P", "1", "1p", "p_", "pQ", "p ", " p", "é", strings.Repeat("p", 21), "as", "alias", "dep", "hidden", "import", "is", "module", "opaque", "package", "use", "val", "version", "p\x00"} {
			wantCode(t, call{c.m, pkg, 1, c.env}, api.ErrArg)
		}
		for _, major := range []int{0, -1, api.MaxPart + 1, -1 << 63, 1<<63 - 1} {
			wantCode(t, call{c.m, "p", major, c.env}, api.ErrArg)
		}
		for _, n := range []int{101, 102, 100000} {
			wantCode(t, call{c.m, "p", 1, slices.Repeat(good.env[:1], n)}, api.ErrArg)
			wantCode(t, call{c.m, "p", 1, make([]api.Iface, n)}, api.ErrArg)
		}
	}
	wantTold(t, call{empty.m, "p", 1, make([]api.Iface, 100)}, "p 1 m")
	wantTold(t, call{good.m, "p", 1, append(make([]api.Iface, 99), good.env[0])}, "p 1 m; T = <p 1 m T>; f : (Int) -> <p 1 m T>")
}

// P10.2: expand's error of the first declaration that has one, whatever that error is.
func TestExpandErrors(t *testing.T) {
	env := []api.Iface{told(t, "q 1 n; T = Int; L = List(Int); R = S")}
	for _, x := range []struct {
		s    string
		code api.Code
		at   int
	}{
		{"import q 1 n as r alias A = r.U", api.ErrNone, 0},
		{"import q 1 n as r val v : r.U", api.ErrNone, 0},
		{"import q 1 n as r val v : r.R", api.ErrNone, 0},
		{"import q 2 n as r val v : r.T", api.ErrNone, 0},
		{"import q 1 n as r opaque T hidden H val v : T val w : (r.T) -> r.U val x : r.V", api.ErrNone, 3},
		{"import q 1 n as r val v : r.T alias A = List(B) alias B = [B: r.U]", api.ErrNone, 1},
		{"import q 1 n as r val v : r.T alias B = [B: r.U] alias A = List(B)", api.ErrNone, 1},
		{"import q 1 n as r val v : r.T alias B = [B: r.T] val a : C alias C = List(D) alias D = r.U", api.ErrNone, 2},
		{"import q 1 n as r opaque T hidden H opaque U hidden I alias A = r.U", api.ErrNone, 4},
	} {
		wantSpot(t, of(t, x.s, env...), x.code, x.at)
		wantHold(t, of(t, x.s, env...))
	}
	// Of several errors the first declaration's is told.
	deep := sample.Alias("L", sample.Nested(31, sample.Local("", "M")))
	wide := sample.Val("w", sample.Func(slices.Repeat([]api.Type{sample.Local("", "W")}, 20)...))
	own := []api.Decl{sample.Alias("M", sample.List(sample.Int())), sample.Alias("W", sample.Func(slices.Repeat([]api.Type{sample.Func(sample.Int())}, 13)...)), sample.Opaque("T")}
	gone := sample.Val("g", sample.Local("r", "U"))
	for _, faults := range [][]api.Decl{{deep}, {wide}, {gone}, {deep, wide}, {wide, gone}, {deep, gone}, {deep, wide, gone}} {
		permuted(append(slices.Clone(own), faults...), func(l []api.Decl) {
			c := call{sample.Module("m", []api.Import{sample.Import("q", 1, "n", "r")}, l...), "p", 1, env}
			at := slices.IndexFunc(l, func(d api.Decl) bool { return strings.Contains("Lwg", d.Name) })
			code := api.ErrLarge
			if l[at].Name == "g" {
				code = api.ErrNone
			}
			wantSpot(t, c, code, at)
			wantHold(t, c)
		})
	}
	wantHold(t, call{sample.Module("m", nil, own...), "p", 1, env})
	// ErrNone is ahead of ErrLarge in one declaration.
	c := call{sample.Module("m", []api.Import{sample.Import("q", 1, "n", "r")}, own[0], sample.Val("v", sample.Func(sample.Nested(30, sample.Local("", "M")), sample.Local("r", "U")))), "p", 1, env}
	wantSpot(t, c, api.ErrNone, 1)
}

// What a declaration comes to may have 500 types, and be 32 deep.
func TestLarge(t *testing.T) {
	for depth, code := range map[int]api.Code{29: 0, 30: 0, 31: api.ErrLarge} {
		c := of(t, "alias A = Int alias B = List(Int) val v : Int")
		c.m.Decls[0].Type = sample.Nested(depth, sample.Local("", "B"))
		if got := wantHold(t, c); got != code {
			t.Errorf("%d levels: error %d; want %d", depth+2, got, code)
		}
		c.m.Decls[0], c.m.Decls[2].Type = sample.Alias("A", sample.Int()), c.m.Decls[0].Type
		if got := wantHold(t, c); got != code {
			t.Errorf("%d levels: error %d; want %d", depth+2, got, code)
		}
	}
	// 1 + n * 25 + rest types.
	for rest, code := range map[int]api.Code{23: 0, 24: 0, 25: api.ErrLarge} {
		c := of(t, "opaque T alias B = Int val v : Int")
		c.m.Decls[1].Type = sample.Func(append(slices.Repeat([]api.Type{sample.Local("", "T")}, 18), sample.Func(slices.Repeat([]api.Type{sample.Int()}, 5)...))...)
		last := sample.Func(append(slices.Repeat([]api.Type{sample.Int()}, 18), sample.Func(slices.Repeat([]api.Type{sample.Int()}, rest-20)...))...)
		c.m.Decls[2].Type = sample.Func(append(slices.Repeat([]api.Type{sample.Local("", "B")}, 19), last)...)
		if got := wantHold(t, c); got != code {
			t.Errorf("%d types: error %d; want %d", 1+19*25+rest, got, code)
		}
	}
}

// All declarations that there may be, each by the next one.
func TestMostDeclarations(t *testing.T) {
	m := sample.Module("m", nil)
	for i := range 20 {
		m.Imports = append(m.Imports, sample.Import("q", 1+i, "n", "r"+strconv.Itoa(i)))
	}
	var names []string
	for i := range api.MaxDecls - 1 {
		names = append(names, "A"+strconv.Itoa(i))
		m.Decls = append(m.Decls, sample.Alias(names[i], sample.Local("", "A"+strconv.Itoa(i+1))))
	}
	m.Decls = append(m.Decls, sample.Alias("A59", sample.Local("r19", "T")))
	names = append(names, "A59")
	slices.Sort(names)
	wantTold(t, call{m, "p", 1, []api.Iface{told(t, "q 20 n; T = Bool")}}, "p 1 m; "+strings.Join(names, " = Bool; ")+" = Bool")
	wantSpot(t, call{m, "p", 1, nil}, api.ErrNone, 0)
	m.Decls = append(m.Decls, sample.Opaque("B"))
	wantCode(t, call{m, "p", 1, nil}, api.ErrArg)
}

// The environment is asked for no more than what is named; the first interface of a module counts.
func TestEnvironment(t *testing.T) {
	a, b, none := told(t, "q 1 n; T = Int; U = Text"), told(t, "q 1 n; T = Bool; V = {}"), told(t, "q 1 n")
	const s = "import q 1 n as r val v : r.T"
	wantTold(t, of(t, s, a, b), "p 1 m; v : Int")
	wantTold(t, of(t, s, told(t, "q 2 n; T = {}"), told(t, "q 1 m; T = {}"), told(t, "n 1 q; T = {}"), b, a), "p 1 m; v : Bool")
	wantSpot(t, of(t, s, none, a), api.ErrNone, 0)
	wantSpot(t, of(t, "import q 1 n as r val v : r.V", a, b), api.ErrNone, 0)
	odd := api.Iface{Pkg: "Q", Major: -1, Types: []api.Named{{}, {Name: "t", Type: sample.Func()}}, Vals: a.Types}
	wantTold(t, of(t, s, odd, api.Iface{}, api.Iface{Pkg: "q", Major: 1, Mod: "n", Types: []api.Named{{Name: "x"}, {Name: "T", Type: sample.Text()}}, Vals: odd.Types}), "p 1 m; v : Text")
	// A module's own interface may stand there, and be imported.
	wantTold(t, of(t, "import p 1 m as m opaque T val v : (m.T) -> T", told(t, "p 1 m; T = List(<p 1 m T>)")), "p 1 m; T = <p 1 m T>; v : (List(<p 1 m T>)) -> <p 1 m T>")
	// What is built is an environment's.
	x, err := of(t, "opaque T alias A = {a: T} val a : A").build()
	if err != nil {
		t.Fatal(err)
	}
	next := of(t, "import p 1 m as m alias B = List(m.A) opaque T val b : (m.T) -> T", x)
	next.m.Name, next.major = "k", 2
	wantTold(t, next, "p 2 k; B = List({a: <p 1 m T>}); T = <p 2 k T>; b : (<p 1 m T>) -> <p 2 k T>")
}

// P1: types that lie in themselves, or share their lists without end, wherever they stand.
func TestEnds(t *testing.T) {
	circle := []api.Type{{Kind: api.List}}
	circle[0].Subs = circle
	shared := sample.Int()
	for range 60 {
		shared = sample.Func(shared, shared)
	}
	for _, bad := range []api.Type{circle[0], shared} {
		l := []api.Named{{Name: "T", Type: bad}}
		x := api.Iface{Pkg: "q", Major: 1, Mod: "n", Types: l}
		if iface.May(x) || iface.Same(x, x) {
			t.Error("one of a type without end may be")
		}
		x.Types, x.Vals = nil, []api.Named{{Name: "t", Type: bad}}
		if iface.May(x) || iface.Same(x, x) {
			t.Error("one of a type without end may be")
		}
		x.Types = l
		wantSpot(t, of(t, "import q 1 n as r opaque T val v : r.T", x), api.ErrNone, 1)
		wantTold(t, of(t, "import q 1 n as r opaque T", x), "p 1 m; T = <p 1 m T>")
		wantCode(t, call{sample.Module("m", nil, sample.Alias("A", bad)), "p", 1, nil}, api.ErrArg)
		wantCode(t, call{sample.Module("m", nil, sample.Val("a", bad)), "p", 1, nil}, api.ErrArg)
	}
	// A few aliases come to more types than can be gone through.
	m := sample.Module("m", nil)
	for i := range api.MaxDecls - 1 {
		m.Decls = append(m.Decls, sample.Alias("A"+strconv.Itoa(i), sample.Func(slices.Repeat([]api.Type{sample.Local("", "A"+strconv.Itoa(i+1))}, 20)...)))
	}
	m.Decls = append(m.Decls, sample.Opaque("A59"))
	wantSpot(t, call{m, "p", 1, nil}, api.ErrLarge, 0)
	slices.Reverse(m.Decls)
	wantSpot(t, call{m, "p", 1, nil}, api.ErrLarge, 3)
}

// P10.1: which may be.

func wantMay(t *testing.T, x api.Iface, may bool) {
	t.Helper()
	if iface.May(x) != may {
		t.Errorf("May(%.300q) = %t", text(x), !may)
	}
	if iface.Same(x, x) != may {
		t.Errorf("Same(%.300q, and that) = %t", text(x), !may)
	}
}

func TestMay(t *testing.T) {
	for _, s := range []string{
		"p 1 m", "p 1 m; T = Int", "p 1 m; t : Int", "p 1 m; A = Int; B = {}; a : Text; b : <q 1 m T>", "m 999999999 m; T = <m 1 m T>", "p 1 m; A = List(Int); A0 = Int; AA = Int; Aa = Int; B = Int",
		"p 1 m; a : [A: Int]; a0 : Int; aa : Int; b : Int", "p 1 m; T = <p 1 m Hidden>; t : () -> {}", "int 1 text; Text0 = Int; text : Int",
	} {
		wantMay(t, told(t, s), true)
	}
	for _, s := range []string{
		"p 0 m", "p -1 m", "p 1000000000 m", "P 1 m", "p 1 M", "p 1 as", "as 1 m", "p_ 1 m", "p 1 é", "9 1 m", "p 1 9",
		"p 1 m; t = Int", "p 1 m; T : Int", "p 1 m; Int = Int", "p 1 m; List = Int", "p 1 m; val : Int", "p 1 m; T0_ = Int", "p 1 m; t_ : Int", "p 1 m; 1 = Int", "p 1 m; 1 : Int",
		"p 1 m; T = T", "p 1 m; T = r.T", "p 1 m; T = List(T)", "p 1 m; T = (Int) -> {a: U}", "p 1 m; t : T", "p 1 m; t : r.T", "p 1 m; t : [A: Int, B: T]", "p 1 m; t : (Int) -> T",
		"p 1 m; T = Int; T = Int", "p 1 m; t : Int; t : Int", "p 1 m; B = Int; A = Int", "p 1 m; b : Int; a : Int", "p 1 m; A = Int; C = Int; B = Int", "p 1 m; a : Int; c : Int; b : Int",
		"p 1 m; AA = Int; A0 = Int", "p 1 m; Aa = Int; AZ = Int", "p 1 m; aa : Int; a0 : Int", "p 1 m; a0 : Int; a : Int", "p 1 m; A = Int; B = Int; B = Text; C = Int",
	} {
		wantMay(t, told(t, s), false)
	}
	wantMay(t, api.Iface{}, false)
}

// Each field that may not be, alone.
func TestMayFields(t *testing.T) {
	good := told(t, "p 1 m; A = Int; B = {}; C = Text; a : Int; b : Bool; c : {}")
	wantMay(t, good, true)
	smalls := []string{"a", "a9", "z0", "let", "int", strings.Repeat("a", 20)}
	greats := []string{"A", "Z9", "Zz", "ZZ", "Ints", strings.Repeat("Z", 20)}
	none := []string{"", strings.Repeat("a", 21), strings.Repeat("Z", 21), "aB", "a-b", "Z-", "a b", "Z ", "a\n", "\xff", "0a", "9Z", "ä", "Ä", "Int", "Text", "Bool", "List",
		"alias", "as", "dep", "hidden", "import", "is", "module", "opaque", "package", "use", "val", "version"}
	for _, s := range slices.Concat(smalls, greats, none) {
		small, great := slices.Contains(smalls, s), slices.Contains(greats, s)
		x := good
		x.Pkg = s
		wantMay(t, x, small)
		x = good
		x.Mod = s
		wantMay(t, x, small)
		x = good
		x.Vals = []api.Named{{Name: s, Type: sample.Int()}}
		wantMay(t, x, small)
		x = good
		x.Types = []api.Named{{Name: s, Type: sample.Int()}}
		wantMay(t, x, great)
	}
	for major, may := range map[int]bool{-1 << 63: false, -1: false, 0: false, 1: true, 2: true, api.MaxPart: true, api.MaxPart + 1: false, 1<<63 - 1: false} {
		x := good
		x.Major = major
		wantMay(t, x, may)
	}
}

// Each place of both lists counts: its name, its order, its type.
func TestMayPlaces(t *testing.T) {
	var long api.Iface
	long.Pkg, long.Major, long.Mod = "p", 1, "m"
	for i := range 300 {
		n := strconv.Itoa(1000 + i)
		long.Types = append(long.Types, api.Named{Name: "T" + n, Type: sample.Open("p", 1, "m", "T"+n)})
		long.Vals = append(long.Vals, api.Named{Name: "t" + n, Type: sample.Record("a", sample.Text())})
	}
	wantMay(t, long, true)
	nothing := []api.Type{{}, {Kind: 10}, sample.Local("", "T"), sample.Local("r", "T"), sample.List(sample.Local("", "U")), sample.Func(), sample.Nested(32, sample.Int()), sample.Open("p", 0, "m", "T")}
	for i := range 300 {
		for _, l := range [][]api.Named{long.Types, long.Vals} {
			was := l[i]
			for _, o := range nothing {
				l[i].Type = o
				wantMay(t, long, false)
			}
			l[i] = was
			for _, s := range []string{"", "T", "t", "T1", "t1", "T9", "t9", l[(i+1)%300].Name, l[(i+299)%300].Name} {
				l[i].Name = s
				wantMay(t, long, i == 0 && (s == "T" || s == "t" || s == "T1" || s == "t1") && s[0] == was.Name[0] || i == 299 && (s == "T9" || s == "t9") && s[0] == was.Name[0])
			}
			l[i] = was
		}
	}
	wantMay(t, long, true)
}

// P10.1: which are the same.
func TestSame(t *testing.T) {
	all := []string{
		"p 1 m", "q 1 m", "p 2 m", "p 1 n", "p 1 m; T = Int", "p 1 m; U = Int", "p 1 m; T = Text", "p 1 m; T = Int; U = Int", "p 1 m; T = Int; t : Int", "p 1 m; t : Int", "p 1 m; u : Int", "p 1 m; t : Text", "p 1 m; t : Int; u : Int",
		"p 1 m; T = Int; U = Text", "p 1 m; T = Text; U = Int", "p 1 m; T = {}; t : Int", "p 1 m; T = Int; t : {}", "p 1 m; T = {a: Int}", "p 1 m; T = {b: Int}", "p 1 m; T = {a: {a: Int}}", "p 1 m; T = <p 1 m T>", "p 1 m; T = <p 2 m T>", "p 1 m; T = <p 1 m U>",
		"p 1 m; T = Int; U = Int; V = Int", "p 1 m; T = Int; U = Int; W = Int", "p 1 m; T = Int; U = Int; V = Int; a : {a: Int}; b : Int", "p 1 m; T = Int; U = Int; V = Int; a : {a: Int}; b : Bool",
	}
	for i, a := range all {
		for j, b := range all {
			if got := iface.Same(told(t, a), told(t, b)); got != (i == j) {
				t.Errorf("Same(%s, %s) = %t", a, b, got)
			}
		}
	}
	for _, s := range []string{"p 0 m", "P 1 m", "p 1 m; T = T", "p 1 m; t : T", "p 1 m; U = Int; T = Int", "p 1 m; T = Int; T = Int", "p 1 m; Int = Int"} {
		bad := told(t, s)
		for _, x := range append(all, s) {
			if iface.Same(bad, told(t, x)) || iface.Same(told(t, x), bad) {
				t.Errorf("Same(%s, %s) = true", s, x)
			}
		}
	}
	// Lists of no elements are alike, however they are told.
	a, b := told(t, "p 1 m"), told(t, "p 1 m")
	b.Types, b.Vals = []api.Named{}, make([]api.Named, 0, 3)
	c, d := told(t, "p 1 m; T = {}"), told(t, "p 1 m; T = {}")
	d.Types[0].Type.Names, d.Types[0].Type.Subs, d.Vals = []string{}, []api.Type{}, []api.Named{}
	if !iface.Same(a, b) || !iface.Same(b, a) || !iface.Same(c, d) || !iface.Same(d, c) || iface.Same(a, d) {
		t.Error("Same of lists of no elements")
	}
}

func cloneNamed(l []api.Named) []api.Named {
	l = slices.Clone(l)
	for i := range l {
		l[i].Type = sample.CloneType(l[i].Type)
	}
	return l
}

func cloneEnv(env []api.Iface) []api.Iface {
	env = slices.Clone(env)
	for i, x := range env {
		env[i].Types, env[i].Vals = cloneNamed(x.Types), cloneNamed(x.Vals)
	}
	return env
}

// full is a call of all that there is.
func full(t *testing.T) call {
	t.Helper()
	c := of(t, "import qq 1 nn as rr val vv : (Bb) -> Tt opaque Tt hidden Hh alias Bb = {aa: Tt, bb: (Aa) -> rr.Xx} alias Aa = [Aa: Int, Bb: List(Tt)] alias Cc = rr.Xx alias Dd = Cc val uu : {aa: {bb: Bb}}",
		told(t, "qq 1 nn; Xx = {xx: <qq 1 nn Xx>, yy: List(Int)}; xx : {aa: <qq 1 nn Xx>}"))
	c.m.Name, c.pkg = strings.Clone("mm"), strings.Clone("pp")
	return c
}

// P10.3: what is handed in stays as it is, what lies behind it in its memory too.
func TestStays(t *testing.T) {
	c := full(t)
	c.m.Decls = append(c.m.Decls, sample.Opaque("Behind"))[:len(c.m.Decls)]
	c.env = append(c.env, api.Iface{Pkg: "behind"})[:1]
	c.env[0].Types = append(c.env[0].Types, api.Named{Name: "Behind"})[:1]
	subs := append(c.m.Decls[3].Type.Subs, sample.Local("", "Behind"))
	c.m.Decls[3].Type.Subs = subs[:2]
	was := call{sample.CloneModule(c.m), c.pkg, c.major, cloneEnv(c.env)}
	for _, o := range []call{c, {c.m, "P", 1, c.env}, {c.m, "p", 1, nil}} {
		_, err := o.build()
		if (err == nil) != (o.pkg == "pp") {
			t.Error(err)
		}
		if !reflect.DeepEqual(c, was) {
			t.Errorf("%s: what was handed in was changed", o)
		}
	}
	x, err := c.build()
	if err != nil {
		t.Fatal(err)
	}
	x.Types = append(x.Types, api.Named{Name: "Behind"})[:len(x.Types)]
	own := api.Iface{Pkg: x.Pkg, Major: x.Major, Mod: x.Mod, Types: cloneNamed(x.Types), Vals: cloneNamed(x.Vals)}
	if !iface.May(x) || !iface.Same(x, own) || !reflect.DeepEqual(x, own) {
		t.Error("May, or Same, changed what it was handed")
	}
	if c.m.Decls[:len(c.m.Decls)+1][len(c.m.Decls)].Name != "Behind" || c.env[:2][1].Pkg != "behind" || c.env[0].Types[:2][1].Name != "Behind" || subs[2].Name != "Behind" || x.Types[:len(x.Types)+1][len(x.Types)].Name != "Behind" {
		t.Error("what lies behind a list was changed")
	}
}

// memory is where each text, of one byte at least, and each list of a type lies.
func memory(o api.Type) []uintptr {
	var l []uintptr
	for _, s := range append(slices.Clone(o.Names), o.Pkg, o.Mod, o.Name) {
		if s != "" {
			l = append(l, uintptr(unsafe.Pointer(unsafe.StringData(s))))
		}
	}
	if len(o.Names) > 0 {
		l = append(l, uintptr(unsafe.Pointer(&o.Names[0])))
	}
	if len(o.Subs) > 0 {
		l = append(l, uintptr(unsafe.Pointer(&o.Subs[0])))
	}
	for _, s := range o.Subs {
		l = append(l, memory(s)...)
	}
	return l
}

func memoryOf(x api.Iface) []uintptr {
	l := memory(api.Type{Pkg: x.Pkg, Mod: x.Mod})
	for _, of := range [][]api.Named{x.Types, x.Vals} {
		if len(of) > 0 {
			l = append(l, uintptr(unsafe.Pointer(&of[0])))
		}
		for _, n := range of {
			l = append(l, memory(api.Type{Name: n.Name, Subs: []api.Type{n.Type}})...)
		}
	}
	return l
}

// P10.3: what is told is new memory, and no two lists of it are one.
func TestNewMemory(t *testing.T) {
	c := full(t)
	shared := sample.Record("aa bb", sample.List(sample.Open("qq", 1, "nn", "Tt")), sample.Local("", "Aa"))
	c.m.Decls = append(c.m.Decls, sample.Alias("Ee", shared), sample.Val("ee", sample.Func(shared, shared)))
	handed := memory(api.Type{Pkg: c.pkg, Mod: c.m.Name})
	for _, d := range c.m.Decls {
		handed = append(handed, memory(api.Type{Name: d.Name, Subs: []api.Type{d.Type}})...)
	}
	for _, x := range c.env {
		handed = append(handed, memoryOf(x)...)
	}
	one, err := c.build()
	if err != nil || len(one.Types) != 6 || len(one.Vals) != 3 {
		t.Fatal(text(one), err)
	}
	two, _ := c.build()
	others := append(handed, memoryOf(two)...)
	once := map[uintptr]int{}
	for _, at := range memoryOf(one) {
		if once[at]++; once[at] > 1 {
			t.Error("two of an answer's lists, or texts, are one")
		}
		if slices.Contains(others, at) {
			t.Error("an answer shares memory with something")
		}
	}
}

func TestKeepsNothing(t *testing.T) {
	one := of(t, "import q 1 n as r opaque T val v : r.T", told(t, "q 1 n; T = Int"))
	two := of(t, "import q 1 n as r hidden T val v : r.T", told(t, "q 1 n; T = Text"))
	for range 3 {
		wantTold(t, one, "p 1 m; T = <p 1 m T>; v : Int")
		wantTold(t, two, "p 1 m; v : Text")
		wantSpot(t, call{one.m, "p", 1, nil}, api.ErrNone, 1)
		wantTold(t, call{one.m, "q", 2, two.env}, "q 2 m; T = <q 2 m T>; v : Text")
	}
}

func decls(t *testing.T, lines string) []api.Decl {
	t.Helper()
	var l []api.Decl
	for _, s := range strings.Split(lines, ";") {
		l = append(l, module(t, s).Decls...)
	}
	return l
}

// All modules of a few declarations, with some environments.
func TestAllSmall(t *testing.T) {
	menu := decls(t, "opaque T; opaque U; hidden T; hidden V; alias T = Int; alias T = U; alias T = r.T; alias T = s.U; alias U = T; alias U = List(V); alias U = {a: T, b: V}; alias V = r.U; alias V = (V) -> T; alias V = (T) -> U; val t : T; val u : (U) -> [T: r.T]; val v : s.V; val u : V")
	a, b, loose := told(t, "q 1 n; T = Int; U = <q 1 n U>"), told(t, "q 2 n; T = <q 2 n T>; U = List(Bool); V = {}"), told(t, "q 1 n; T = U; U = Int")
	envs := [][]api.Iface{nil, {a}, {b, a}, {b, loose, a}, {a, b, loose}}
	found := map[api.Code]int{}
	var walk func(m api.Module)
	walk = func(m api.Module) {
		for _, env := range envs {
			found[wantHold(t, call{m, "p", 1, env})]++
		}
		if len(m.Decls) == 4 || len(m.Decls) == 3 && scope.Check(m) != nil {
			return
		}
		for _, d := range menu {
			walk(sample.Module("m", m.Imports, append(slices.Clip(m.Decls), d)...))
		}
	}
	walk(sample.Module("m", []api.Import{sample.Import("q", 1, "n", "r"), sample.Import("q", 2, "n", "s")}))
	for _, code := range []api.Code{0, api.ErrTwice, api.ErrName, api.ErrDeep, api.ErrHidden, api.ErrNone} {
		if found[code] < 100 {
			t.Errorf("error %d was told %d times", code, found[code])
		}
	}
}

// anyType is of few parts, the same ones at each run; its Locals are of these names.
func anyType(r *rand.Rand, levels int, locals []string) api.Type {
	if levels == 1 || r.Intn(3) == 0 {
		mod, name, has := strings.Cut(locals[r.Intn(len(locals))], ".")
		if !has {
			mod, name = "", mod
		}
		return []api.Type{sample.Local(mod, name), sample.Local(mod, name), sample.Int(), sample.Open("p", 1, "m", "A0")}[r.Intn(4)]
	}
	s := func() api.Type { return anyType(r, levels-1, locals) }
	return []func() api.Type{
		func() api.Type { return sample.List(s()) },
		func() api.Type { return sample.Record("a b", s(), s()) },
		func() api.Type { return sample.Variant("A0 A1", s(), s()) },
		func() api.Type { return sample.Func(s(), s(), s(), s(), s()) },
	}[r.Intn(4)]()
}

func TestMany(t *testing.T) {
	r := rand.New(rand.NewSource(1010))
	found := map[api.Code]int{}
	for range 6000 {
		c := call{sample.Module("m", []api.Import{sample.Import("q", 1+r.Intn(2), "n", "r"), sample.Import("q", 2, "n", "s")}), "p", 1 + r.Intn(3), nil}
		there := []string{"r.T", "s.T", "r.U"}
		for major := 1; major <= 2; major++ {
			x := told(t, "q "+strconv.Itoa(major)+" n; T = {}; U = <q 1 n U>")
			if r.Intn(12) == 0 {
				x.Types = x.Types[:1]
			}
			c.env = append(c.env, x)
		}
		for i := range r.Intn(12) {
			n := strconv.Itoa(i)
			switch r.Intn(5) {
			case 0:
				c.m.Decls = append(c.m.Decls, sample.Opaque("A"+n))
				there = append(there, "A"+n)
			case 1:
				c.m.Decls = append(c.m.Decls, sample.Hidden("H"+n))
			case 2:
				c.m.Decls = append(c.m.Decls, sample.Val("a"+n, anyType(r, 1+r.Intn(3), there)))
			default:
				c.m.Decls = append(c.m.Decls, sample.Alias("A"+n, anyType(r, 1+r.Intn(6), there)))
				there = append(there, "A"+n)
			}
		}
		r.Shuffle(len(c.m.Decls), func(i, j int) { c.m.Decls[i], c.m.Decls[j] = c.m.Decls[j], c.m.Decls[i] })
		found[wantHold(t, c)]++
	}
	for _, code := range []api.Code{0, api.ErrNone, api.ErrLarge} {
		if found[code] < 50 {
			t.Errorf("error %d was told %d times", code, found[code])
		}
	}
}
