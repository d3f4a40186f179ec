package bump_test

import (
	"cmp"
	"math/rand"
	"reflect"
	"slices"
	"strconv"
	"strings"
	"testing"
	"time"
	"unsafe"

	"merlon/api"
	"merlon/bump"
	"merlon/iface"
	"merlon/kind"
	"merlon/sample"
	"merlon/sub"
	"merlon/uses"
)

// env are the interfaces of texts.
func env(t *testing.T, l ...string) []api.Iface {
	t.Helper()
	all, err := sample.Env(l...)
	if err != nil {
		t.Fatalf("Env(%q): %v", l, err)
	}
	return all
}

// of are the interfaces of package p 1, of texts that begin with a module's name.
func of(t *testing.T, s string) []api.Iface {
	t.Helper()
	if s == "" {
		return nil
	}
	return env(t, strings.Split("p 1 "+strings.ReplaceAll(s, " | ", " | p 1 "), " | ")...)
}

// text is that of changes: a type's names end with an exclamation mark.
func text(l []api.Change) string {
	var all []string
	for _, c := range l {
		s := "?"
		if c.Kind >= api.Gone && c.Kind <= api.New {
			s = []string{"gone", "turned", "wider", "new"}[c.Kind-1]
		}
		s += " " + c.Mod + "." + c.Name
		if c.OfType {
			s += "!"
		}
		all = append(all, s)
	}
	return strings.Join(all, ", ")
}

func brief(l []api.Iface) string {
	var all []string
	for _, x := range l {
		s := x.Pkg + " " + strconv.Itoa(x.Major) + " " + x.Mod
		for _, n := range slices.Concat(x.Types, x.Vals) {
			o, err := kind.Print(n.Type)
			if err != nil {
				o = "?"
			}
			s += "; " + n.Name + " " + o
		}
		all = append(all, s)
	}
	return strings.Join(all, " | ")
}

// wantArg holds that one may not be held against the other.
func wantArg(t *testing.T, a, b []api.Iface) {
	t.Helper()
	if l, err := bump.Changes(a, b); err != error(api.ErrArg) || len(l) > 0 {
		t.Errorf("Changes(%.300s; %.300s) = %s, %v; want error %d", brief(a), brief(b), text(l), err, api.ErrArg)
	}
	if n, err := bump.Of(a, b); err != error(api.ErrArg) || n != 0 {
		t.Errorf("Of(%.300s; %.300s) = %d, %v; want error %d", brief(a), brief(b), n, err, api.ErrArg)
	}
}

func wantChanges(t *testing.T, a, b []api.Iface, want string, step int) {
	t.Helper()
	if l, err := bump.Changes(a, b); err != nil || text(l) != want {
		t.Errorf("Changes(%.500s; %.500s) = %.500s, %v; want %.500s", brief(a), brief(b), text(l), err, want)
	}
	if n, err := bump.Of(a, b); err != nil || n != step {
		t.Errorf("Of(%.500s; %.500s) = %d, %v; want %d", brief(a), brief(b), n, err, step)
	}
}

func stepOf(t *testing.T, a, b []api.Iface) int {
	t.Helper()
	n, err := bump.Of(a, b)
	if err != nil {
		t.Errorf("Of(%.500s; %.500s): %v", brief(a), brief(b), err)
	}
	return n
}

// A second reading of the chapter.

func modelMay(l []api.Iface) bool {
	mods := map[string]int{}
	for _, x := range l {
		mods[x.Mod]++
		if x.Pkg != l[0].Pkg || x.Major != l[0].Major || mods[x.Mod] > 1 || !iface.May(x) {
			return false
		}
	}
	return len(l) <= 20 && slices.IsSortedFunc(l, func(x, y api.Iface) int { return strings.Compare(x.Mod, y.Mod) })
}

// place is where a name stands.
type place struct {
	mod, name string
	ofType    bool
}

func places(l []api.Iface) map[place]api.Type {
	all := map[place]api.Type{}
	for _, x := range l {
		for _, n := range x.Types {
			all[place{x.Mod, n.Name, true}] = n.Type
		}
		for _, n := range x.Vals {
			all[place{x.Mod, n.Name, false}] = n.Type
		}
	}
	return all
}

// serves tells whether a client of what was is typed with what is: what layer 11 says of a line.
func serves(p place, was, is api.Type) bool {
	line, x := sample.Use("r", "v", was), api.Iface{Pkg: "q", Major: 1, Mod: "n"}
	x.Vals = []api.Named{{Name: "v", Type: is}}
	if p.ofType {
		line = sample.Is("r", "T", was)
		x.Types = []api.Named{{Name: "T", Type: is}}
	}
	return uses.Check(sample.Client([]api.Import{sample.Import("q", 1, "n", "r")}, line), []api.Iface{x}) == nil
}

// modelChanges are all changes, one place after the other, and the bump.
func modelChanges(a, b []api.Iface) (string, int) {
	old, now := places(a), places(b)
	var l []api.Change
	tell := func(k int, p place) { l = append(l, api.Change{Kind: k, Mod: p.mod, Name: p.name, OfType: p.ofType}) }
	for p, was := range old {
		is, has := now[p]
		switch {
		case !has:
			tell(api.Gone, p)
		case !serves(p, was, is):
			tell(api.Turned, p)
		case !serves(p, is, was):
			tell(api.Wider, p)
		}
	}
	for p := range now {
		if _, has := old[p]; !has {
			tell(api.New, p)
		}
	}
	slices.SortFunc(l, func(x, y api.Change) int {
		// Great letters are below small ones: so types stand ahead of values.
		return cmp.Or(cmp.Compare(x.Mod, y.Mod), cmp.Compare(x.Name, y.Name))
	})
	step := 1
	for _, c := range l {
		step = max(step, []int{3, 3, 2, 2}[c.Kind-1])
	}
	return text(l), step
}

// wantHold holds two against the second reading alone.
func wantHold(t *testing.T, a, b []api.Iface) int {
	t.Helper()
	for _, l := range [][]api.Iface{a, b} {
		if bump.May(l) != modelMay(l) {
			t.Errorf("May(%.500s) = %t", brief(l), bump.May(l))
		}
	}
	if !modelMay(a) || !modelMay(b) || len(a) > 0 && len(b) > 0 && (a[0].Pkg != b[0].Pkg || a[0].Major != b[0].Major) {
		wantArg(t, a, b)
		return 0
	}
	want, step := modelChanges(a, b)
	wantChanges(t, a, b, want, step)
	return step
}

func want(t *testing.T, old, now, changes string, step int) {
	t.Helper()
	a, b := of(t, old), of(t, now)
	wantChanges(t, a, b, changes, step)
	wantHold(t, a, b)
}

func TestExample(t *testing.T) {
	want(t, "m; f : Int", "m; f : Int; g : Int", "new m.g", api.Minor)
}

// What becomes of one value, by both its types.
func TestValues(t *testing.T) {
	for _, x := range []struct {
		old, now string
		wider    bool
	}{
		{"Int", "Text", false}, {"Int", "Bool", false}, {"Int", "{}", false}, {"{}", "Int", false}, {"Int", "List(Int)", false}, {"Int", "() -> Int", false}, {"Int", "<p 1 m T>", false},
		{"{}", "{a: Int}", true}, {"{a: Int}", "{}", false}, {"{a: Int}", "{a: Int, b: Int}", true}, {"{b: Int}", "{a: Int, b: Int}", true}, {"{a: Int}", "{b: Int}", false}, {"{a: Int}", "{a: Text}", false}, {"{a: {}}", "{a: {b: {}}}", true}, {"{a: {}, b: {a: Int}}", "{a: {a: Int}, b: {}}", false},
		{"[A: Int, B: Int]", "[A: Int]", true}, {"[A: Int]", "[A: Int, B: Int]", false}, {"[A: Int]", "[B: Int]", false}, {"[A: {}]", "[A: {a: Int}]", true}, {"[A: {a: Int}]", "[A: {}]", false},
		{"List({})", "List({a: Int})", true}, {"List({a: Int})", "List({})", false}, {"List(Int)", "List(Text)", false},
		{"({a: Int}) -> Int", "({}) -> Int", true}, {"({}) -> Int", "({a: Int}) -> Int", false}, {"() -> {}", "() -> {a: Int}", true}, {"() -> {a: Int}", "() -> {}", false}, {"() -> Int", "(Int) -> Int", false}, {"(Int) -> Int", "() -> Int", false}, {"(Int) -> Int", "(Text) -> Int", false},
		{"({a: Int}) -> {}", "({}) -> {a: Int}", true}, {"({a: Int}) -> {a: Int}", "({}) -> {}", false}, {"(({}) -> Int) -> Int", "(({a: Int}) -> Int) -> Int", true}, {"(({a: Int}) -> Int) -> Int", "(({}) -> Int) -> Int", false},
		{"<p 1 m T>", "<p 1 m U>", false}, {"<p 1 m T>", "<p 2 m T>", false}, {"<p 1 m T>", "<p 1 n T>", false}, {"<p 1 m T>", "<q 1 m T>", false}, {"<p 1 m T>", "{}", false},
	} {
		kindOf, step := "turned", api.Major
		if x.wider {
			kindOf, step = "wider", api.Minor
		}
		want(t, "m; v : "+x.old, "m; v : "+x.now, kindOf+" m.v", step)
		want(t, "m; T = Int; a : {}; v : "+x.old+"; z : {}", "m; T = Int; a : {}; v : "+x.now+"; z : {}", kindOf+" m.v", step)
		want(t, "m; v : "+x.old, "m; v : "+x.old, "", api.Patch)
		want(t, "m; v : "+x.now, "m; v : "+x.now, "", api.Patch)
		// A type that is another one has turned, whichever may stand for which.
		want(t, "m; V = "+x.old, "m; V = "+x.now, "turned m.V!", api.Major)
		want(t, "m; V = "+x.now, "m; V = "+x.old, "turned m.V!", api.Major)
		want(t, "m; V = "+x.old, "m; V = "+x.old, "", api.Patch)
		want(t, "m; v : "+x.old, "m", "gone m.v", api.Major)
		want(t, "m", "m; v : "+x.old, "new m.v", api.Minor)
		want(t, "m; V = "+x.old, "m", "gone m.V!", api.Major)
		want(t, "m", "m; V = "+x.old, "new m.V!", api.Minor)
	}
}

// Modules that come and go: what changes is their names alone.
func TestModules(t *testing.T) {
	want(t, "", "", "", api.Patch)
	want(t, "", "m", "", api.Patch)
	want(t, "m", "", "", api.Patch)
	want(t, "m", "m", "", api.Patch)
	want(t, "m", "n", "", api.Patch)
	want(t, "a | c", "a | b | c", "", api.Patch)
	want(t, "", "m; T = Int; f : Int", "new m.T!, new m.f", api.Minor)
	want(t, "m; T = Int; f : Int", "", "gone m.T!, gone m.f", api.Major)
	want(t, "m; T = Int; f : Int", "m", "gone m.T!, gone m.f", api.Major)
	want(t, "m; T = Int; f : Int", "n; T = Int; f : Int", "gone m.T!, gone m.f, new n.T!, new n.f", api.Major)
	want(t, "b; f : Int", "a; f : Int | b; f : Int | c; f : Int", "new a.f, new c.f", api.Minor)
	want(t, "a; f : Int | b; f : Int | c; f : Int", "b; f : Int", "gone a.f, gone c.f", api.Major)
	// A name is its module's, and of a type, or of a value.
	want(t, "a; f : Int | b; g : Int", "a; g : Int | b; f : Int", "gone a.f, new a.g, new b.f, gone b.g", api.Major)
	want(t, "a; T = Int | b; T = Text", "a; T = Text | b; T = Int", "turned a.T!, turned b.T!", api.Major)
	want(t, "a; f : {} | b; f : {x: Int}", "a; f : {x: Int} | b; f : {}", "wider a.f, turned b.f", api.Major)
	want(t, "a; f : {} | b; f : {x: Int}", "a; f : {x: Int} | b; f : {x: Int}", "wider a.f", api.Minor)
}

// Changes stand by Mod, types first, then by Name, byte by byte, whatever their kinds.
func TestOrder(t *testing.T) {
	want(t, "m; A = Int; B = Int; C = Int; a : Int; b : {}; c : Int", "m; A = Text; C = Int; D = Int; b : {x: Int}; c : {}; d : Int", "turned m.A!, gone m.B!, new m.D!, gone m.a, wider m.b, turned m.c, new m.d", api.Major)
	want(t, "m; z : Int", "m; Z = Int", "new m.Z!, gone m.z", api.Major)
	want(t, "m; Z = Int", "m; z : Int", "gone m.Z!, new m.z", api.Major)
	want(t, "a; z : Int | b; A = Int", "a; A = Int | b; z : Int", "new a.A!, gone a.z, gone b.A!, new b.z", api.Major)
	want(t, "m", "m; A = Int; A0 = Int; A10 = Int; A9 = Int; AA = Int; Aa = Int; B = Int; a : Int; a0 : Int; a10 : Int; a9 : Int; aa : Int; b : Int", "new m.A!, new m.A0!, new m.A10!, new m.A9!, new m.AA!, new m.Aa!, new m.B!, new m.a, new m.a0, new m.a10, new m.a9, new m.aa, new m.b", api.Minor)
	want(t, "m; A0 = Int; A9 = Int; Aa = Int; a0 : Int; a9 : Int; b : Int", "m; A = Int; A10 = Int; AA = Int; B = Int; a : Int; a10 : Int; aa : Int", "new m.A!, gone m.A0!, new m.A10!, gone m.A9!, new m.AA!, gone m.Aa!, new m.B!, new m.a, gone m.a0, new m.a10, gone m.a9, new m.aa, gone m.b", api.Major)
	want(t, "a; f : Int | a0; f : Int | aa; f : Int | b; f : Int", "a; f : {} | a00; f : Int | a9; f : Int | b; f : {}", "turned a.f, gone a0.f, new a00.f, new a9.f, gone aa.f, turned b.f", api.Major)
}

// One change of a kind among many others sets the bump, wherever it stands.
func TestSteps(t *testing.T) {
	for at, mod := range []string{"a", "b", "c"} {
		for _, x := range []struct {
			old, now string
			step     int
		}{
			{"f : Int", "f : Int", api.Patch}, {"g : Int", "f : Int; g : Int", api.Minor}, {"f : {}", "f : {a: Int}", api.Minor}, {"g : Int", "T = Int; g : Int", api.Minor},
			{"f : Int; g : Int", "g : Int", api.Major}, {"f : Int", "f : Text", api.Major}, {"T = {}", "T = {a: Int}", api.Major}, {"T = {}; f : Int", "f : Int", api.Major},
		} {
			for _, y := range []struct {
				old, now string
				step     int
			}{{"", "", api.Patch}, {"; k : {}", "; k : {a: Int}", api.Minor}, {"", "; k : Int", api.Minor}, {"; k : Int", "; k : {}", api.Major}} {
				var old, now []string
				for _, m := range []string{"a", "b", "c"} {
					if m == mod {
						old, now = append(old, m+"; "+x.old), append(now, m+"; "+x.now)
					} else {
						old, now = append(old, m+y.old), append(now, m+y.now)
					}
				}
				a, b := of(t, strings.Join(old, " | ")), of(t, strings.Join(now, " | "))
				if got := wantHold(t, a, b); got != max(x.step, y.step) {
					t.Errorf("Of(%s; %s) = %d, by module %d", brief(a), brief(b), got, at)
				}
			}
		}
	}
}

// P12.1: which are a package's.
func TestMay(t *testing.T) {
	for _, l := range [][]string{
		{}, {"p 1 m"}, {"p 1 m; T = Int; f : Int"}, {"p 1 m", "p 1 n"}, {"q 999999999 a; T = <p 1 m T>", "q 999999999 a0", "q 999999999 a9; f : {}", "q 999999999 aa", "q 999999999 b"}, {"m 1 m", "m 1 n"},
	} {
		if a := env(t, l...); !bump.May(a) {
			t.Errorf("May(%q) = false", l)
		} else {
			wantChanges(t, a, a, "", api.Patch)
		}
	}
	for _, l := range [][]string{
		{"p 1 m", "q 1 n"}, {"p 1 m", "p 2 n"}, {"p 2 m", "p 1 n"}, {"p 1 a", "p 1 b", "q 1 c"}, {"q 1 a", "p 1 b", "p 1 c"}, {"p 1 a", "q 1 b", "p 1 c"}, {"p 1 a", "p 2 b", "p 1 c"}, {"p 1 a", "p 1 b", "p 2 c"}, {"p 3 a", "p 1 b", "p 1 c"},
		{"p 1 m", "p 1 m"}, {"p 1 n", "p 1 m"}, {"p 1 a", "p 1 c", "p 1 b"}, {"p 1 b", "p 1 a", "p 1 c"}, {"p 1 a", "p 1 b", "p 1 b"}, {"p 1 a", "p 1 a", "p 1 b"}, {"p 1 a", "p 1 b", "p 1 a"}, {"p 1 a9", "p 1 a10"}, {"p 1 aa", "p 1 a"}, {"p 1 m; f : Int", "p 1 m; g : Int"},
		{"p 0 m"}, {"P 1 m"}, {"p 1 M"}, {"p 1 as"}, {"p 1 m; t = Int"}, {"p 1 m; T = T"}, {"p 1 m; f : r.T"}, {"p 1 m; g : Int; f : Int"}, {"p 1 m; T = Int; T = Int"}, {"p 1 m", "p 1 n; g : Int; f : Int"}, {"p 1 m; T : Int", "p 1 n"}, {"p 0 m", "p 0 n"}, {"P 1 m", "P 1 n"}, {"p 1000000000 m", "p 1000000000 n"},
	} {
		a := env(t, l...)
		if bump.May(a) {
			t.Errorf("May(%q) = true", l)
		}
		for _, b := range [][]api.Iface{nil, env(t, "p 1 m"), env(t, "p 2 m"), env(t, "q 1 m"), a} {
			wantArg(t, a, b)
			wantArg(t, b, a)
		}
	}
	if bump.May(make([]api.Iface, 1)) || !bump.May([]api.Iface{}) {
		t.Error("May of none, or of a zero one")
	}
}

// modules are so many, of that package, each with one value.
func modules(n int, pkg string, major int) []api.Iface {
	var l []api.Iface
	for i := range n {
		l = append(l, api.Iface{Pkg: pkg, Major: major, Mod: "m" + strconv.Itoa(10000+i), Vals: []api.Named{{Name: "f", Type: sample.Int()}}})
	}
	return l
}

func TestMostModules(t *testing.T) {
	for _, n := range []int{19, 20, 21, 22, 100, 101, 276, 5000} {
		l := modules(n, "p", 1)
		if bump.May(l) != (n <= 20) {
			t.Errorf("May of %d = %t", n, n > 20)
		}
		if n > 20 {
			for _, b := range [][]api.Iface{nil, l[:1], l[:20], l} {
				wantArg(t, l, b)
				wantArg(t, b, l)
			}
		}
	}
	l := modules(40, "p", 1)
	if step := wantHold(t, l[:20], l[20:]); step != api.Major {
		t.Error("what is gone isn't told")
	}
	wantHold(t, nil, l[:20])
	wantHold(t, l[:20], nil)
	wantHold(t, l[10:30], l[:20])
	// At each place of them one may not be.
	for i := range 20 {
		for _, bad := range []api.Iface{{}, {Pkg: "q", Major: 1, Mod: l[i].Mod}, {Pkg: "p", Major: 2, Mod: l[i].Mod}, {Pkg: "p", Major: 1, Mod: l[(i+1)%20].Mod}, {Pkg: "p", Major: 1, Mod: l[(i+19)%20].Mod}, {Pkg: "p", Major: 1, Mod: l[i].Mod, Vals: []api.Named{{Name: "T"}}}, {Pkg: "p", Major: 1, Mod: l[i].Mod, Types: []api.Named{{Name: "T", Type: sample.Local("", "T")}}}} {
			a := slices.Clone(l[:20])
			a[i] = bad
			if bump.May(a) {
				t.Errorf("May(%s) = true", brief(a))
			}
			wantArg(t, a, l[:20])
			wantArg(t, l[:20], a)
		}
	}
}

// Both have some, of another package, or major.
func TestOtherPackage(t *testing.T) {
	all := [][]api.Iface{env(t, "p 1 m; f : Int"), env(t, "q 1 m; f : Int"), env(t, "p 2 m; f : Int"), env(t, "p 3 a", "p 3 m; f : Int"), env(t, "m 1 p; f : Int"), env(t, "p 999999999 m")}
	for i, a := range all {
		for j, b := range all {
			if i == j {
				wantChanges(t, a, b, "", api.Patch)
			} else {
				wantArg(t, a, b)
			}
			wantHold(t, a, b)
		}
		// None are of each package.
		for _, none := range [][]api.Iface{nil, {}} {
			wantHold(t, a, none)
			wantHold(t, none, a)
		}
	}
	wantChanges(t, nil, all[1], "new m.f", api.Minor)
	wantChanges(t, all[2], []api.Iface{}, "gone m.f", api.Major)
	// Their other modules don't make them one.
	wantArg(t, env(t, "p 1 a; f : Int"), env(t, "q 1 b; f : Int"))
	wantArg(t, env(t, "p 1 a; f : Int"), env(t, "p 2 b; f : Int"))
	wantArg(t, env(t, "p 1 a"), env(t, "p 2 a"))
}

// Lists of no elements are alike, however they are told.
func TestEmptyLists(t *testing.T) {
	a, b := of(t, "m; T = {}; v : () -> {}"), of(t, "m; T = {}; v : () -> {}")
	b[0].Types[0].Type.Names, b[0].Types[0].Type.Subs = []string{}, []api.Type{}
	b[0].Vals[0].Type.Names = []string{}
	wantChanges(t, a, b, "", api.Patch)
	wantChanges(t, b, a, "", api.Patch)
	a, b = of(t, "m"), of(t, "m")
	b[0].Types, b[0].Vals = []api.Named{}, []api.Named{}
	wantChanges(t, a, b, "", api.Patch)
	wantChanges(t, b, a, "", api.Patch)
	if l, err := bump.Changes(a, b); err != nil || len(l) != 0 {
		t.Error(l, err)
	}
}

// P1.
func TestEnds(t *testing.T) {
	circle := []api.Type{{Kind: api.List}}
	circle[0].Subs = circle
	shared := sample.Int()
	for range 60 {
		shared = sample.Func(shared, shared)
	}
	good := of(t, "m; T = Int; f : Int")
	for _, bad := range []api.Type{circle[0], shared, {Kind: api.Record, Names: []string{"a"}}, {Kind: api.Variant}, {Kind: api.Func}, {}} {
		for _, name := range []string{"T", "f"} {
			l := []api.Iface{{Pkg: "p", Major: 1, Mod: "m", Types: []api.Named{{Name: "T", Type: bad}}}}
			if name == "f" {
				l = []api.Iface{{Pkg: "p", Major: 1, Mod: "m", Vals: []api.Named{{Name: "f", Type: bad}}}}
			}
			if bump.May(l) {
				t.Error("a type without end may be")
			}
			wantArg(t, l, good)
			wantArg(t, good, l)
			wantArg(t, l, l)
		}
	}
}

// Interfaces may have any number of names.
func TestManyNames(t *testing.T) {
	long := func(from, to int) []api.Iface {
		x := api.Iface{Pkg: "p", Major: 1, Mod: "m"}
		for i := from; i < to; i++ {
			n := strconv.Itoa(1000000 + i)
			x.Types = append(x.Types, api.Named{Name: "T" + n, Type: sample.Int()})
			x.Vals = append(x.Vals, api.Named{Name: "v" + n, Type: sample.Record("")})
		}
		return []api.Iface{x}
	}
	const most = 100000
	a, b := long(0, most), long(most/2, most+most/2)
	start := time.Now()
	l, err := bump.Changes(a, b)
	if err != nil || len(l) != 2*most {
		t.Fatal(len(l), err)
	}
	if took := time.Since(start); took > 20*time.Second {
		t.Errorf("%d names took %s", 4*most, took)
	}
	for i, c := range l {
		w := api.Change{Kind: api.Gone, Mod: "m", Name: "T" + strconv.Itoa(1000000+i), OfType: true}
		if i >= most {
			w.Name, w.OfType = "v"+strconv.Itoa(1000000+i-most), false
		}
		if i%most >= most/2 {
			w.Kind = api.New
			w.Name = w.Name[:1] + strconv.Itoa(1000000+i%most+most/2)
		}
		if c != w {
			t.Fatalf("change %d is %v; want %v", i, c, w)
		}
	}
}

// P12.2: what is handed in stays as it is, what lies behind it in its memory too.
func TestStays(t *testing.T) {
	a := of(t, "a; T = {a: Int, b: Text}; U = Int; f : Int; g : {a: {}} | b; T = Int; f : {} | c; f : Int")
	b := of(t, "a; T = {a: Int, b: Bool}; f : Int; g : {a: {b: Int}}; h : Int | c; V = [A: Int]; f : (Int) -> Int | d; x : <p 1 m T>")
	for _, l := range [][]api.Iface{a, b} {
		for i, x := range l {
			l[i].Types = append(x.Types, api.Named{Name: "Behind"})[:len(x.Types)]
			l[i].Vals = append(x.Vals, api.Named{Name: "behind"})[:len(x.Vals)]
		}
	}
	a, b = append(a, api.Iface{Pkg: "behind"})[:len(a)], append(b, api.Iface{Pkg: "behind"})[:len(b)]
	wasA, wasB := sample.CloneEnv(a), sample.CloneEnv(b)
	turned := slices.Clone(b)
	slices.Reverse(turned)
	wasTurned := slices.Clone(turned)
	for range 2 {
		wantHold(t, a, b)
		wantHold(t, b, a)
		wantHold(t, a, a)
		wantArg(t, turned, a)
		wantArg(t, a, turned)
	}
	if !reflect.DeepEqual(a, wasA) || !reflect.DeepEqual(b, wasB) || !reflect.DeepEqual(turned, wasTurned) {
		t.Error("what was handed in was changed")
	}
	for _, l := range [][]api.Iface{a, b} {
		if l[:len(l)+1][len(l)].Pkg != "behind" {
			t.Error("what lies behind a list was changed")
		}
		for _, x := range l {
			if x.Types[:len(x.Types)+1][len(x.Types)].Name != "Behind" || x.Vals[:len(x.Vals)+1][len(x.Vals)].Name != "behind" {
				t.Error("what lies behind a list was changed")
			}
		}
	}
}

func memoryOf(s string) uintptr { return uintptr(unsafe.Pointer(unsafe.StringData(s))) }

// P12.2: what is told is new memory.
func TestNewMemory(t *testing.T) {
	a := of(t, "aa; Tt = Int; Uu = Int; ff : Int; gg : {} | bb; ff : Int; gg : Int")
	b := of(t, "aa; Tt = Text; Vv = Int; ff : Text; gg : {a: Int}; hh : Int | cc; ff : Int; gg : Int")
	var taken []uintptr
	for _, x := range slices.Concat(a, b) {
		taken = append(taken, memoryOf(x.Mod))
		for _, n := range slices.Concat(x.Types, x.Vals) {
			taken = append(taken, memoryOf(n.Name))
		}
	}
	for range 3 {
		l, err := bump.Changes(a, b)
		if err != nil || len(l) != 10 {
			t.Fatal(text(l), err)
		}
		taken = append(taken, uintptr(unsafe.Pointer(&l[0])))
		for _, c := range l {
			for _, s := range []string{c.Mod, c.Name} {
				if slices.Contains(taken, memoryOf(s)) {
					t.Errorf("%s shares memory with something", s)
				}
				taken = append(taken, memoryOf(s))
			}
		}
		if slices.Contains(taken[:len(taken)-21], uintptr(unsafe.Pointer(&l[0]))) {
			t.Error("two answers are one list")
		}
		for i := range l {
			l[i] = api.Change{Kind: -1}
		}
	}
}

// menu are package p 1's interfaces, of two modules each.
func menu(t *testing.T) [][]api.Iface {
	t.Helper()
	var all [][]api.Iface
	for _, m := range []string{"", "m", "m; T = Int", "m; T = {}; f : Int", "m; f : {}", "m; f : {a: Int}", "m; f : {a: Int}; g : Int", "m; T = Int; f : {a: {a: Int}}", "m; g : [A: Int, B: Int]", "m; g : [A: Int]"} {
		for _, n := range []string{"", "n", "n; T = Int", "n; T = Text; f : ({}) -> {}", "n; f : ({a: Int}) -> {}", "n; f : ({}) -> {a: Int}; g : Int"} {
			all = append(all, of(t, strings.Trim(m+" | "+n, " |")))
		}
	}
	return all
}

// All pairs of the menu, and P12.3's of three, one behind the other.
func TestAllSmall(t *testing.T) {
	all := menu(t)
	steps := make([][]int, len(all))
	for i, a := range all {
		for _, b := range all {
			steps[i] = append(steps[i], wantHold(t, a, b))
		}
	}
	found := map[[3]int]int{}
	for i := range all {
		for j := range all {
			for k := range all {
				found[[3]int{steps[i][j], steps[j][k], steps[i][k]}]++
				if steps[i][k] > max(steps[i][j], steps[j][k]) {
					t.Errorf("%s; %s; %s: steps %d, %d, and %d of both", brief(all[i]), brief(all[j]), brief(all[k]), steps[i][j], steps[j][k], steps[i][k])
				}
			}
		}
	}
	for _, s := range [][3]int{{2, 2, 2}, {3, 3, 1}, {3, 2, 2}, {1, 2, 2}, {3, 3, 3}, {2, 3, 1}} {
		if found[s] == 0 {
			t.Errorf("steps %v weren't there", s)
		}
	}
}

// P12.3: a client that is typed with the old ones is typed with new ones, if the bump isn't Major; of some it isn't, if it is Major.
func TestUpgrades(t *testing.T) {
	all := menu(t)
	var clients []api.Uses
	imports := []api.Import{sample.Import("p", 1, "m", "m"), sample.Import("p", 1, "n", "n")}
	for _, s := range []string{"use m.f : {}", "use m.f : {a: {}}", "use m.f : {a: m.T}", "use m.g : Int", "use m.g : [A: Int, B: Int, C: {}]", "use m.g : [A: Int]", "is m.T = Int", "is m.T = n.T", "is n.T = n.T", "is n.T = Text", "use n.f : ({a: Int}) -> {}", "use n.f : ({}) -> {}", "use n.f : (m.T) -> {}", "use n.g : Int", ""} {
		u, err := uses.Parse(s)
		if err != nil {
			t.Fatal(err)
		}
		clients = append(clients, sample.Client(imports, u.Lines...))
	}
	for i := range clients[:14] {
		clients = append(clients, sample.Client(imports, append(slices.Clone(clients[i].Lines), clients[(i*5+3)%14].Lines...)...))
	}
	kept, broken := 0, 0
	for _, a := range all {
		for _, b := range all {
			step := stepOf(t, a, b)
			for _, u := range clients {
				if uses.Check(u, a) != nil {
					continue
				}
				switch err := uses.Check(u, b); {
				case err != nil && step < api.Major:
					t.Errorf("%s; %s: step %d, but %v is %v", brief(a), brief(b), step, u, err)
				case err != nil:
					broken++
				case step < api.Major:
					kept++
				}
			}
		}
	}
	if kept < 1000 || broken < 1000 {
		t.Errorf("%d kept, %d broken", kept, broken)
	}
}

func TestKeepsNothing(t *testing.T) {
	a, b := of(t, "m; f : {}"), of(t, "m; f : {a: Int}; g : Int")
	for range 3 {
		wantChanges(t, a, b, "wider m.f, new m.g", api.Minor)
		wantChanges(t, b, a, "turned m.f, gone m.g", api.Major)
		wantArg(t, a, env(t, "p 2 m"))
		wantChanges(t, a, a, "", api.Patch)
		wantChanges(t, nil, env(t, "p 2 m; f : Int"), "new m.f", api.Minor)
	}
}

// plain is a type that is plain, of a few levels.
func plain(r *rand.Rand, levels int) api.Type {
	for {
		if o := sample.AnyType(r.Intn, levels); kind.Plain(o) {
			return o
		}
	}
}

// some are package p 1's interfaces.
func some(r *rand.Rand) []api.Iface {
	var l []api.Iface
	for i := range r.Intn(5) {
		x := api.Iface{Pkg: "p", Major: 1, Mod: "m" + strconv.Itoa(i)}
		for k := range r.Intn(4) {
			x.Types = append(x.Types, api.Named{Name: "T" + strconv.Itoa(k), Type: plain(r, 1+r.Intn(3))})
		}
		for k := range r.Intn(6) {
			x.Vals = append(x.Vals, api.Named{Name: "v" + strconv.Itoa(k), Type: plain(r, 1+r.Intn(3))})
		}
		l = append(l, x)
	}
	return l
}

// next are interfaces behind others, of which little has changed: names come and go as often, types are taken that may stand for the old ones, or others.
func next(r *rand.Rand, old []api.Iface, odds int) []api.Iface {
	l := sample.CloneEnv(old)
	for i := range l {
		for _, at := range []*[]api.Named{&l[i].Types, &l[i].Vals} {
			ofType := at == &l[i].Types
			for k := range *at {
				n := &(*at)[k]
				switch {
				case !ofType && r.Intn(3) == 0:
					n.Type = sample.Looser(r.Intn, n.Type, false)
				case r.Intn(odds) == 0:
					n.Type = sample.Looser(r.Intn, n.Type, true)
				case r.Intn(odds) == 0:
					n.Type = plain(r, 2)
				}
			}
			if len(*at) > 0 && r.Intn(odds) == 0 {
				k := r.Intn(len(*at))
				*at = slices.Delete(*at, k, k+1)
			}
		}
		if r.Intn(3) == 0 {
			l[i].Vals = append(l[i].Vals, api.Named{Name: "w" + strconv.Itoa(r.Intn(100)), Type: plain(r, 2)})
			slices.SortFunc(l[i].Vals, func(x, y api.Named) int { return cmp.Compare(x.Name, y.Name) })
			l[i].Vals = slices.CompactFunc(l[i].Vals, func(x, y api.Named) bool { return x.Name == y.Name })
		}
	}
	if len(l) > 0 && r.Intn(odds) == 0 {
		k := r.Intn(len(l))
		l = slices.Delete(l, k, k+1)
	}
	if r.Intn(4) == 0 {
		l = append(l, api.Iface{Pkg: "p", Major: 1, Mod: "n" + strconv.Itoa(len(l)), Vals: []api.Named{{Name: "x", Type: plain(r, 2)}}})
	}
	return l
}

// typed are clients that are typed with interfaces: of each name one, as it is, and one, if it is a value, of a type that its may stand for.
func typed(r *rand.Rand, l []api.Iface) []api.Uses {
	var all []api.Uses
	for _, x := range l {
		imports := []api.Import{sample.Import(x.Pkg, x.Major, x.Mod, "r")}
		for _, n := range x.Types {
			all = append(all, sample.Client(imports, sample.Is("r", n.Name, n.Type)))
		}
		for _, n := range x.Vals {
			o := sample.Looser(r.Intn, n.Type, true)
			all = append(all, sample.Client(imports, sample.Use("r", n.Name, n.Type), sample.Use("r", n.Name, o)))
			if !sub.Sub(n.Type, o) {
				continue
			}
			all = append(all, sample.Client(imports, sample.Use("r", n.Name, o)))
		}
	}
	return all
}

func TestMany(t *testing.T) {
	r := rand.New(rand.NewSource(1212))
	found := map[int]int{}
	for range 3000 {
		odds := 3 + r.Intn(60)
		a := some(r)
		b := next(r, a, odds)
		c := next(r, b, odds)
		if !modelMay(b) || !modelMay(c) {
			continue
		}
		ab, bc, ac := wantHold(t, a, b), wantHold(t, b, c), wantHold(t, a, c)
		found[ab]++
		if ac > max(ab, bc) {
			t.Errorf("%s; %s; %s: steps %d, %d, and %d of both", brief(a), brief(b), brief(c), ab, bc, ac)
		}
		for _, u := range typed(r, a) {
			if ab < api.Major && uses.Check(u, a) == nil && uses.Check(u, b) != nil {
				t.Errorf("%s; %s: step %d, but %v is typed no more", brief(a), brief(b), ab, u)
			}
		}
		wantHold(t, some(r), c)
	}
	for step := api.Patch; step <= api.Major; step++ {
		if found[step] < 50 {
			t.Errorf("step %d was told %d times", step, found[step])
		}
	}
}
