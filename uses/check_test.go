package uses_test

import (
	"errors"
	"math/rand"
	"reflect"
	"slices"
	"strconv"
	"strings"
	"testing"

	"merlon/api"
	"merlon/kind"
	"merlon/sample"
	"merlon/sub"
	"merlon/uses"
)

// said is the client of a text.
func said(t *testing.T, s string) api.Uses {
	t.Helper()
	u, err := uses.Parse(s)
	if err != nil {
		t.Fatalf("Parse(%.300q): %v", s, err)
	}
	return u
}

// env are the interfaces of texts.
func env(t *testing.T, l ...string) []api.Iface {
	t.Helper()
	all, err := sample.Env(l...)
	if err != nil {
		t.Fatalf("Env(%q): %v", l, err)
	}
	return all
}

// call is what Check is handed.
type call struct {
	u   api.Uses
	env []api.Iface
}

func (c call) String() string {
	return "Check(" + brief(c.u) + "; " + strconv.Itoa(len(c.env)) + " interfaces)"
}

// wantCode holds an error, itself.
func (c call) wantCode(t *testing.T, code api.Code) {
	t.Helper()
	if err := uses.Check(c.u, c.env); err != error(code) {
		t.Errorf("%s: %v; want error %d", c, err, code)
	}
}

// wantSpot holds an error at a line, or at an import.
func (c call) wantSpot(t *testing.T, code api.Code, at int) {
	t.Helper()
	if err := uses.Check(c.u, c.env); !isSpot(err, code, at) {
		t.Errorf("%s: %v; want error %d at %d", c, err, code, at)
	}
}

// wantTyped holds one that is typed; and P11.4: so is it with a line less, and with an interface more behind.
func (c call) wantTyped(t *testing.T) {
	t.Helper()
	if err := uses.Check(c.u, c.env); err != nil {
		t.Errorf("%s: %v", c, err)
		return
	}
	for i := range c.u.Lines {
		less := client(c.u.Imports, slices.Concat(c.u.Lines[:i:i], c.u.Lines[i+1:])...)
		if err := uses.Check(less, c.env); err != nil {
			t.Errorf("%s, without line %d: %v", c, i, err)
		}
	}
	if len(c.env) == api.MaxIfaces {
		return
	}
	more := []api.Iface{{}, {Pkg: "other", Major: 1, Mod: "m"}, {Pkg: "P", Major: -1, Types: []api.Named{{}}, Vals: []api.Named{{Name: "f"}}}}
	for _, i := range c.u.Imports {
		odd := []api.Named{{Name: "T", Type: local("", "T")}, {Name: "f", Type: api.Type{Kind: -1}}}
		more = append(more, api.Iface{Pkg: i.Pkg, Major: i.Major, Mod: i.Mod}, api.Iface{Pkg: i.Pkg, Major: i.Major, Mod: i.Mod, Types: odd, Vals: odd})
	}
	for _, x := range more {
		if err := uses.Check(c.u, append(slices.Clip(c.env), x)); err != nil {
			t.Errorf("%s, with %s %d %s behind: %v", c, x.Pkg, x.Major, x.Mod, err)
		}
	}
}

// A second reading of the chapter.

// modelFirst is the first interface of an import's, and whether there is one.
func modelFirst(c call, as string) (found api.Iface, imported, has bool) {
	for _, i := range slices.Backward(c.u.Imports) {
		if i.As != as {
			continue
		}
		imported = true
		for _, x := range slices.Backward(c.env) {
			if x.Pkg == i.Pkg && x.Major == i.Major && x.Mod == i.Mod {
				found, has = x, true
			}
		}
	}
	return found, imported, has
}

func modelOf(l []api.Named, name string) (found api.Type, has bool) {
	for _, n := range slices.Backward(l) {
		if n.Name == name {
			found, has = n.Type, true
		}
	}
	return found, has
}

// locals are those in a type that may be.
func locals(o api.Type) []api.Type {
	if o.Kind == api.Local {
		return []api.Type{o}
	}
	var l []api.Type
	for _, s := range o.Subs {
		l = append(l, locals(s)...)
	}
	return l
}

// put puts types in for Locals.
func put(o api.Type, in func(api.Type) api.Type) api.Type {
	if o.Kind == api.Local {
		return in(o)
	}
	o.Subs = slices.Clone(o.Subs)
	for i, s := range o.Subs {
		o.Subs[i] = put(s, in)
	}
	return o
}

// modelLine asks for one error after the other.
func modelLine(c call, l api.Line) api.Code {
	x, imported, has := modelFirst(c, l.Mod)
	missing, lacking := !imported, !has
	there := func(local api.Type) api.Type {
		x, imported, _ := modelFirst(c, local.Mod)
		missing = missing || local.Mod == "" || !imported
		o, _ := modelOf(x.Types, local.Name)
		lacking = lacking || !kind.Plain(o)
		return o
	}
	for _, local := range locals(l.Type) {
		there(local)
	}
	all := x.Vals
	if l.Kind == api.Is {
		all = x.Types
	}
	told, has := modelOf(all, l.Name)
	if missing {
		return api.ErrName
	}
	if lacking || !has {
		return api.ErrNone
	}
	plain := put(l.Type, there)
	if !kind.May(plain) {
		return api.ErrLarge
	}
	if l.Kind == api.Use && sub.Sub(told, plain) || l.Kind == api.Is && sub.Sub(told, plain) && sub.Sub(plain, told) {
		return 0
	}
	return api.ErrType
}

// modelCheck is what Check tells: an error, and where: -1, if it is the error itself.
func modelCheck(c call) (api.Code, int) {
	if !uses.May(c.u) || len(c.env) > 100 {
		return api.ErrArg, -1
	}
	known := map[string]int{}
	for i, x := range c.u.Imports {
		if known[x.As]++; known[x.As] > 1 {
			return api.ErrTwice, i
		}
	}
	for i, l := range c.u.Lines {
		if code := modelLine(c, l); code != 0 {
			return code, i
		}
	}
	return 0, 0
}

// wantHold holds a call against the second reading alone.
func (c call) wantHold(t *testing.T) api.Code {
	t.Helper()
	code, at := modelCheck(c)
	switch {
	case code == 0:
		c.wantTyped(t)
	case at < 0:
		c.wantCode(t, code)
	default:
		c.wantSpot(t, code, at)
	}
	return code
}

func want(t *testing.T, s string, env []api.Iface, code api.Code, at int) {
	t.Helper()
	c := call{said(t, s), env}
	if code == 0 {
		c.wantTyped(t)
	} else {
		c.wantSpot(t, code, at)
	}
	c.wantHold(t)
}

const one = "q 1 n; O = <q 1 n O>; R = {a: Int}; T = Int; V = [A: Int]; f : (Int) -> {a: Int, b: Text}; g : Int; h : ({a: Int}) -> Int; l : List({a: Int, b: Bool}); o : <q 1 n O>; r : {a: Int}; v : [A: Int]"

// What one line says of one interface, of which all else is there.
func TestLines(t *testing.T) {
	for line, typed := range map[string]bool{
		"use r.g : Int": true, "use r.g : Text": false, "use r.g : {}": false, "use r.g : List(Int)": false, "use r.g : <q 1 n T>": false, "use r.g : r.T": true, "use r.g : r.R": false,
		// The value's type may stand for the line's, not the other way round.
		"use r.r : {a: Int}": true, "use r.r : {}": true, "use r.r : {a: Int, b: Int}": false, "use r.r : {a: Text}": false, "use r.r : {b: Int}": false, "use r.r : {a: r.T}": true, "use r.r : r.R": true,
		"use r.v : [A: Int]": true, "use r.v : [A: Int, B: Text]": true, "use r.v : [B: Int]": false, "use r.v : [A: Text, B: Int]": false, "use r.v : r.V": true, "use r.v : [A: r.T, B: r.O]": true,
		"use r.f : (Int) -> {a: Int, b: Text}": true, "use r.f : (Int) -> {a: Int}": true, "use r.f : (Int) -> {}": true, "use r.f : (r.T) -> r.R": true, "use r.f : (Int) -> {a: Int, b: Text, c: Int}": false, "use r.f : () -> {}": false, "use r.f : (Int, Int) -> {}": false, "use r.f : {a: Int, b: Text}": false,
		"use r.h : ({a: Int}) -> Int": true, "use r.h : ({a: Int, b: Text}) -> Int": true, "use r.h : ({}) -> Int": false, "use r.h : (r.R) -> r.T": true,
		"use r.l : List({a: Int, b: Bool})": true, "use r.l : List({b: Bool})": true, "use r.l : List({})": true, "use r.l : List({a: Int, b: Bool, c: {}})": false, "use r.l : List(r.R)": true, "use r.l : {}": false,
		"use r.o : <q 1 n O>": true, "use r.o : r.O": true, "use r.o : <q 2 n O>": false, "use r.o : <q 1 n P>": false, "use r.o : <p 1 n O>": false, "use r.o : <q 1 m O>": false, "use r.o : {}": false,
		// A type is just the line's.
		"is r.T = Int": true, "is r.T = r.T": true, "is r.T = Text": false, "is r.T = {}": false, "is r.T = <q 1 n T>": false,
		"is r.R = {a: Int}": true, "is r.R = {a: r.T}": true, "is r.R = r.R": true, "is r.R = {}": false, "is r.R = {a: Int, b: Int}": false, "is r.R = {a: Text}": false, "is r.R = r.T": false,
		"is r.V = [A: Int]": true, "is r.V = [A: Int, B: Int]": false, "is r.V = [B: Int]": false, "is r.V = r.V": true,
		"is r.O = <q 1 n O>": true, "is r.O = r.O": true, "is r.O = <q 1 n P>": false, "is r.O = <q 2 n O>": false, "is r.O = <p 1 n O>": false, "is r.O = <q 1 m O>": false,
	} {
		code := api.ErrType
		if typed {
			code = 0
		}
		want(t, "import q 1 n as r "+line, env(t, one), code, 0)
		want(t, "import q 2 n as s import q 1 n as r use r.g : {} "+line, env(t, "q 2 n", one), api.ErrType, 0)
		want(t, "import q 2 n as s import q 1 n as r use r.g : Int is s.T = r.R "+line, env(t, "q 2 n; T = {a: Int}", one), code, 2)
	}
}

func TestNothing(t *testing.T) {
	want(t, "", nil, 0, 0)
	want(t, "import q 1 n as r", nil, 0, 0)
	want(t, "import q 1 n as r import q 1 n as s import q 2 m as n", env(t, "p 1 m"), 0, 0)
	call{client([]api.Import{}), []api.Iface{}}.wantTyped(t)
	// What isn't named isn't asked for.
	want(t, "import q 1 n as r import z 9 z as z use r.g : Int", env(t, one), 0, 0)
}

// P11.2: ErrArg, of a client that may not be, or of too many interfaces.
func TestArg(t *testing.T) {
	good := call{said(t, "import q 1 n as r use r.g : r.T is r.T = Int"), append(make([]api.Iface, 99), env(t, one)...)}
	good.wantTyped(t)
	amiss := []string{"import q 1 n as r import q 1 n as r", "use r.g : Int", "import q 1 n as r use r.x : Int", "import q 1 n as r use r.g : {}", ""}
	for _, s := range append(amiss, "import q 1 n as r use r.g : Int") {
		for _, n := range []int{101, 102, 357, 65636, 1 << 17} {
			call{said(t, s), slices.Repeat(env(t, one), n)}.wantCode(t, api.ErrArg)
			call{said(t, s), make([]api.Iface, n)}.wantCode(t, api.ErrArg)
		}
	}
	for i, s := range amiss {
		code, at := []api.Code{api.ErrTwice, api.ErrName, api.ErrNone, api.ErrType, 0}[i], []int{1, 0, 0, 0, 0}[i]
		want(t, s, good.env, code, at)
	}
	// Ahead of ErrTwice, and of all lines' errors.
	twice := said(t, "import q 1 n as r import q 1 n as r use x.f : T")
	for _, bad := range []api.Line{{}, use("r", "G", intT), is("r", "t", intT), use("R", "g", intT), use("", "g", intT), use("r", "g", api.Type{}), {Kind: 3, Mod: "r", Name: "g", Type: intT}} {
		for _, u := range []api.Uses{client(nil, bad), client(good.u.Imports, use("r", "g", intT), bad), client(twice.Imports, bad), client(twice.Imports, twice.Lines[0], bad)} {
			call{u, good.env}.wantCode(t, api.ErrArg)
			call{u, nil}.wantCode(t, api.ErrArg)
		}
	}
	for _, bad := range []api.Import{{}, imp("Q", 1, "n", "s"), imp("q", 0, "n", "s"), imp("q", 1, "N", "s"), imp("q", 1, "n", "is")} {
		call{client(append(slices.Clip(good.u.Imports), bad), good.u.Lines...), good.env}.wantCode(t, api.ErrArg)
		call{client(append(slices.Clip(twice.Imports), bad), twice.Lines...), good.env}.wantCode(t, api.ErrArg)
	}
	call{client(manyImports(21)), nil}.wantCode(t, api.ErrArg)
	call{client(nil, manyLines(61)...), nil}.wantCode(t, api.ErrArg)
	call{client(good.u.Imports, slices.Repeat([]api.Line{use("r", "g", intT)}, 60)...), good.env}.wantTyped(t)
	call{client(good.u.Imports, slices.Repeat([]api.Line{use("r", "g", intT)}, 61)...), good.env}.wantCode(t, api.ErrArg)
}

// P11.2: ErrTwice, at the first import whose As is one's ahead of it, ahead of all lines.
func TestTwice(t *testing.T) {
	for l, at := range map[string]int{"aa": 1, "aba": 2, "abb": 2, "abab": 2, "abcda": 4, "abcdd": 4, "aaa": 1, "abcba": 3} {
		u := client(nil)
		for i, as := range l {
			u.Imports = append(u.Imports, imp("p"+strconv.Itoa(i), 1+i, "m", string(as)))
		}
		call{u, nil}.wantSpot(t, api.ErrTwice, at)
		for _, line := range []string{"use a.f : Int", "use nowhere.f : Int", "is a.T = T"} {
			u.Lines = said(t, line).Lines
			call{u, nil}.wantSpot(t, api.ErrTwice, at)
			call{u, env(t, "p0 1 m; f : Int")}.wantSpot(t, api.ErrTwice, at)
		}
	}
	// The As alone counts, and what else there is of an import doesn't.
	want(t, "import q 1 n as r import q 1 n as r use r.g : Int", env(t, one), api.ErrTwice, 1)
	want(t, "import q 1 n as r import q 1 n as s import q 1 n as q import q 1 n as n use r.g : Int is s.T = n.T use q.r : r.R", env(t, one), 0, 0)
	u := client(manyImports(20))
	call{u, nil}.wantTyped(t)
	u.Imports[19].As = u.Imports[0].As
	call{u, nil}.wantSpot(t, api.ErrTwice, 19)
}

// A Mod is an import's As, and nothing else.
func TestMods(t *testing.T) {
	all := env(t, "q 1 n; T = Int; f : Int", "q 2 n; T = Text; f : Text", "q 1 o; T = Bool; f : Bool", "s 1 n; T = {}; f : {}", "n 1 q; T = List(Int); f : List(Int)")
	for s, o := range map[string]string{"import q 1 n as r": "Int", "import q 2 n as r": "Text", "import q 1 o as r": "Bool", "import s 1 n as r": "{}", "import n 1 q as r": "List(Int)"} {
		for _, say := range []string{"Int", "Text", "Bool", "{}", "List(Int)"} {
			code := api.ErrType
			if o == say {
				code = 0
			}
			want(t, s+" use r.f : "+say, all, code, 0)
			want(t, s+" is r.T = "+say, all, code, 0)
			want(t, s+" import q 1 n as f use r.f : "+say+" use f.f : Int", all, code, 0)
		}
		for _, mod := range []string{"q", "n", "s", "f", "p", "m", "rr"} {
			want(t, s+" use "+mod+".f : Int", all, api.ErrName, 0)
			want(t, s+" use r.f : r.T is "+mod+".T = Int", all, api.ErrName, 1)
			want(t, s+" use r.f : "+mod+".T", all, api.ErrName, 0)
			want(t, s+" is r.T = r.T is r.T = (r.T) -> {a: "+mod+".T}", all, api.ErrName, 1)
		}
		// A module without declarations has no types of its own.
		for _, o := range []string{"T", "List(T)", "(r.T) -> T", "{a: r.T, b: T}", "[A: T]", "Nowhere"} {
			want(t, s+" use r.f : "+o, all, api.ErrName, 0)
			want(t, s+" is r.T = "+o, all, api.ErrName, 0)
		}
	}
	for _, s := range []string{"import q 3 n as r", "import s 2 n as r", "import s 1 o as r", "import q 1 q as r", "import r 1 r as r", "import p 1 m as r"} {
		want(t, s+" use r.f : Int", all, api.ErrNone, 0)
		want(t, s+" is r.T = Int", all, api.ErrNone, 0)
		want(t, s+" import q 1 n as n use n.f : r.T", all, api.ErrNone, 0)
	}
	// Locals of one import in a line of another one.
	want(t, "import q 1 n as r import q 2 n as s use r.f : s.T", all, api.ErrType, 0)
	want(t, "import q 1 n as r import q 1 n as s use r.f : s.T is s.T = r.T", all, 0, 0)
	want(t, "import q 2 n as n import s 1 n as q use n.f : n.T use q.f : q.T use n.f : q.T", all, api.ErrType, 2)
}

// A Use is of a Val, an Is of a type; the first interface counts, and the first of a name in it.
func TestFirstCounts(t *testing.T) {
	const r = "import q 1 n as r "
	a, b, none, other := "q 1 n; T = Int; f : Int", "q 1 n; T = Text; U = Text; f : Text; g : Text", "q 1 n", "q 1 o; T = Bool; f : Bool"
	want(t, r+"use r.f : Int is r.T = Int use r.f : r.T", env(t, a, b), 0, 0)
	want(t, r+"use r.f : Text is r.T = Text use r.f : r.T", env(t, other, b, other, a, none), 0, 0)
	want(t, r+"use r.f : Text", env(t, a, b), api.ErrType, 0)
	want(t, r+"is r.T = Text", env(t, a, b), api.ErrType, 0)
	want(t, r+"use r.f : Int use r.g : Text", env(t, a, b), api.ErrNone, 1)
	want(t, r+"is r.T = Int is r.U = Text", env(t, a, b), api.ErrNone, 1)
	want(t, r+"use r.f : r.U", env(t, a, b), api.ErrNone, 0)
	want(t, r+"use r.f : Int", env(t, none, a), api.ErrNone, 0)
	want(t, r+"is r.T = Int", env(t, none, a), api.ErrNone, 0)
	want(t, r+"use r.f : Int", env(t, other, other), api.ErrNone, 0)
	twice := env(t, "q 1 n; U = {}; T = Int; T = Text; z : {}; f : Int; f : Text; a : Bool")
	want(t, r+"use r.f : Int is r.T = Int is r.U = {} use r.z : {} use r.a : Bool", twice, 0, 0)
	want(t, r+"use r.f : Text", twice, api.ErrType, 0)
	want(t, r+"is r.T = Text", twice, api.ErrType, 0)
	// Names are those of a Val, or of a type, alone.
	odd := env(t, "q 1 n; f = Int; T : Int")
	want(t, r+"use r.f : Int", odd, api.ErrNone, 0)
	want(t, r+"is r.T = Int", odd, api.ErrNone, 0)
	for _, s := range []string{"use r.ff : Int", "use r.t : Int", "is r.F = Int", "is r.TT = Int", "is r.U = Int"} {
		want(t, r+s, env(t, a), api.ErrNone, 0)
	}
	want(t, r+"use r.f : Int use r.a : Int is r.A = Int is r.Z = {} use r.z : {}", env(t, "q 1 n; Z = {}; A = Int; B = Bool; z : {}; a : Int; f : Int"), 0, 0)
}

// An interface may have types that aren't plain: such a name is there, but none of that type is.
func TestNotPlain(t *testing.T) {
	const r = "import q 1 n as r "
	all := env(t, "q 1 n; A = T; B = List(r.T); T = Int; a : T; b : {t: T}; c : r.T; t : Int")
	for _, s := range []string{"use r.a : Int", "use r.a : r.T", "use r.b : {}", "use r.b : {t: Int}", "use r.c : r.T", "is r.A = Int", "is r.A = r.T", "is r.B = List(r.T)", "is r.B = List(Int)"} {
		want(t, r+s, all, api.ErrType, 0)
	}
	for _, s := range []string{"use r.t : r.A", "is r.T = r.A", "is r.A = r.A", "is r.B = r.B", "use r.a : r.A", "use r.t : (r.T) -> r.B"} {
		want(t, r+s, all, api.ErrNone, 0)
	}
	want(t, r+"is r.A = T", all, api.ErrName, 0)
	want(t, r+"use r.a : T", all, api.ErrName, 0)
	bad := append(endless(), api.Type{}, api.Type{Kind: -1}, api.Type{Kind: api.Int, Name: "T"}, fn(), sized(501, intT), nested(32, intT), open("p", 0, "m", "T"))
	for _, o := range bad {
		l := []api.Named{{Name: "T", Type: o}, {Name: "t", Type: o}}
		x := []api.Iface{{Pkg: "q", Major: 1, Mod: "n", Types: l, Vals: l}}
		for _, s := range []string{"Int", "{}", "<q 1 n T>", "[A: Int]"} {
			call{said(t, r+"use r.t : "+s), x}.wantSpot(t, api.ErrType, 0)
			call{said(t, r+"is r.T = "+s), x}.wantSpot(t, api.ErrType, 0)
		}
		call{said(t, r+"use r.t : r.T"), x}.wantSpot(t, api.ErrNone, 0)
		call{said(t, r+"is r.T = r.T"), x}.wantSpot(t, api.ErrNone, 0)
	}
}

// faulty are the imports of the lines that faults tells.
const faulty = "import q 1 n as r import q 9 n as gone"

// faults are an environment, and lines that have one error in it, or none.
func faults(t *testing.T) (all []api.Iface, lines map[api.Code][]api.Line) {
	t.Helper()
	all = env(t, "q 1 n; L = Int; T = Int; f : Int")
	all[0].Types[0].Type = nested(16, intT)
	large := nested(16, local("r", "L"))
	lines = map[api.Code][]api.Line{
		0:            {use("r", "f", local("r", "T")), is("r", "T", intT)},
		api.ErrName:  {use("no", "f", intT), use("r", "f", local("", "T")), is("no", "T", intT), is("r", "T", local("no", "T"))},
		api.ErrNone:  {use("r", "g", intT), use("gone", "f", intT), use("r", "f", local("r", "U")), is("r", "U", intT), is("gone", "T", intT), is("r", "T", local("gone", "T"))},
		api.ErrLarge: {use("r", "f", large), is("r", "T", large)},
		api.ErrType:  {use("r", "f", textT), is("r", "T", textT)},
	}
	return all, lines
}

// Line by line: the first line at fault is told, whatever is amiss with those behind it.
func TestLineByLine(t *testing.T) {
	all, lines := faults(t)
	imports := said(t, faulty).Imports
	for code, l := range lines {
		for _, first := range l {
			call{client(imports, first), all}.wantHold(t)
			for other, m := range lines {
				for _, second := range m {
					at, told := 0, code
					if code == 0 {
						at, told = 1, other
					}
					for ahead := range 3 {
						u := client(imports, append(slices.Repeat(lines[0][:1], ahead), first, second)...)
						c := call{u, all}
						if told == 0 {
							c.wantTyped(t)
						} else {
							c.wantSpot(t, told, ahead+at)
						}
						c.wantHold(t)
					}
				}
			}
		}
	}
	for i := range 60 {
		for code, l := range lines {
			u := client(imports, slices.Repeat(lines[0][:1], 60)...)
			u.Lines[i] = l[0]
			if code == 0 {
				call{u, all}.wantTyped(t)
			} else {
				call{u, all}.wantSpot(t, code, i)
			}
		}
	}
}

// In one line: ErrName, ErrNone, ErrLarge, ErrType.
func TestOrderInALine(t *testing.T) {
	all, _ := faults(t)
	imports := said(t, faulty).Imports
	deep := nested(16, local("r", "L"))
	types := map[string]struct {
		o    api.Type
		code api.Code
	}{
		"own":             {local("", "T"), api.ErrName},
		"no import":       {local("no", "T"), api.ErrName},
		"no interface":    {local("gone", "T"), api.ErrNone},
		"no type":         {local("r", "U"), api.ErrNone},
		"large":           {deep, api.ErrLarge},
		"other":           {textT, api.ErrType},
		"right":           {local("r", "T"), 0},
		"own, large":      {fn(deep, local("", "T")), api.ErrName},
		"no type, own":    {fn(local("r", "U"), local("", "T")), api.ErrName},
		"own, no type":    {fn(local("", "T"), local("r", "U")), api.ErrName},
		"no import, none": {fn(local("gone", "T"), local("no", "T"), deep), api.ErrName},
		"no type, large":  {fn(deep, local("r", "U")), api.ErrNone},
		"large, no type":  {fn(local("gone", "T"), deep), api.ErrNone},
	}
	names := []struct {
		mod, small, great string
		code              api.Code
	}{
		{"no", "f", "T", api.ErrName}, {"no", "g", "U", api.ErrName}, {"gone", "f", "T", api.ErrNone}, {"r", "g", "U", api.ErrNone}, {"r", "f", "T", 0},
	}
	order := []api.Code{api.ErrName, api.ErrNone, api.ErrLarge, api.ErrType}
	for s, o := range types {
		for _, n := range names {
			at := slices.IndexFunc(order, func(c api.Code) bool { return c == o.code || c == n.code })
			for _, l := range []api.Line{use(n.mod, n.small, o.o), is(n.mod, n.great, o.o)} {
				c := call{client(imports, l), all}
				if at < 0 {
					c.wantTyped(t)
				} else {
					c.wantSpot(t, order[at], 0)
				}
				if got := c.wantHold(t); at >= 0 && got != order[at] {
					t.Errorf("%s, %s: the second reading tells %d", s, n.mod, got)
				}
			}
		}
	}
}

// wantComes holds lines that say a type, with Locals of which each comes to another one: they are typed, or have that error.
func wantComes(t *testing.T, say, of api.Type, code api.Code) {
	t.Helper()
	x := env(t, "q 1 n; L = Int; T = Int; t : Int")
	x[0].Types[0].Type = of
	if code == 0 {
		o := put(say, func(api.Type) api.Type { return of })
		x[0].Types[1].Type, x[0].Vals[0].Type = o, o
	}
	for _, l := range []api.Line{use("r", "t", say), is("r", "T", say)} {
		c := call{client(imports(imp("q", 1, "n", "r")), l), x}
		if got := c.wantHold(t); got != code {
			t.Errorf("%s: error %d; want %d", c, got, code)
		}
	}
}

// What a type comes to may have 500 types, and be 32 deep.
func TestLarge(t *testing.T) {
	for levels := range 32 {
		say := nested(levels, local("r", "L"))
		wantComes(t, say, nested(31-levels, intT), 0)
		if levels > 0 {
			wantComes(t, say, nested(32-levels, intT), api.ErrLarge)
			wantComes(t, say, nested(31, intT), api.ErrLarge)
		}
	}
	for _, n := range []int{2, 25, 100, 400, 500} {
		say := sized(501-n, local("r", "L"))
		wantComes(t, say, sized(n, intT), 0)
		if n < 500 {
			wantComes(t, sized(502-n, local("r", "L")), sized(n, intT), api.ErrLarge)
			wantComes(t, say, sized(n+1, intT), api.ErrLarge)
		}
	}
	// Too large, whether it would be typed or not: a value's type may stand for {}.
	x := env(t, "q 1 n; L = Int; t : [A: Int]")
	x[0].Types[0].Type = wide(20, intT)
	say := sample.Variant("A B", intT, wide(20, fn(slices.Repeat([]api.Type{local("r", "L")}, 2)...)))
	call{client(imports(imp("q", 1, "n", "r")), use("r", "t", say)), x}.wantSpot(t, api.ErrLarge, 0)
}

// P1: types without end in the environment, however many there are.
func TestEndlessEnvironment(t *testing.T) {
	imports := manyImports(20)
	var lines []api.Line
	for i := range 60 {
		as := "a" + strconv.Itoa(i%20)
		lines = append(lines, []api.Line{use(as, "z", intT), is(as, "Z", intT)}[i/20%2])
	}
	for _, o := range endless() {
		var bad []api.Named
		for i := range 2000 {
			bad = append(bad, api.Named{Name: "T" + strconv.Itoa(i), Type: o}, api.Named{Name: "t" + strconv.Itoa(i), Type: o})
		}
		bad = append(bad, api.Named{Name: "Z", Type: intT}, api.Named{Name: "z", Type: intT})
		var all []api.Iface
		for i := range 100 {
			all = append(all, api.Iface{Pkg: "p" + strconv.Itoa(i), Major: 1 + i, Mod: "m", Types: bad, Vals: bad})
		}
		if err := uses.Check(client(imports, lines...), all); err != nil {
			t.Error(err)
		}
		call{client(imports, append(slices.Clone(lines[:59]), use("a19", "t1999", intT))...), all}.wantSpot(t, api.ErrType, 59)
		call{client(imports, append(slices.Clone(lines[:59]), use("a19", "z", local("a0", "T7")))...), all}.wantSpot(t, api.ErrNone, 59)
		for _, l := range []api.Line{use("a0", "z", o), is("a0", "Z", o)} {
			call{client(imports, l), all}.wantCode(t, api.ErrArg)
		}
	}
	// Locals that come to more types than can be gone through.
	x := env(t, "p0 1 m; T = Int; t : Int")
	x[0].Types[0].Type = sized(500, intT)
	call{client(imports, use("a0", "t", sized(500, local("a0", "T")))), x}.wantSpot(t, api.ErrLarge, 0)
	say := put(sized(500, intT), func(o api.Type) api.Type { return o })
	call{client(imports, slices.Repeat([]api.Line{is("a0", "T", say)}, 60)...), x}.wantTyped(t)
	x[0].Types[0].Type = wide(19, intT)
	call{client(imports, use("a0", "t", wide(20, wide(20, local("a0", "T"))))), x}.wantSpot(t, api.ErrLarge, 0)
}

// P11.3: what is handed in stays as it is, and what lies behind its lists.
func TestCheckStays(t *testing.T) {
	full := said(t, "import q 1 n as r import q 2 n as s use r.f : (Int) -> r.R is r.R = {a: r.T} use r.v : [A: Int, B: s.T] is s.T = Text use r.g : Text")
	fullEnv := env(t, one, "q 2 n; T = Text; U = s.T; u : {}", "behind 1 b; B = Int")
	was, wasEnv := sample.CloneClient(full), sample.CloneEnv(fullEnv)
	for n := range 6 {
		u := full
		u.Lines = full.Lines[:n]
		for m := range 4 {
			c := call{u, fullEnv[:m]}
			c.wantHold(t)
		}
	}
	for n := range 3 {
		u := full
		u.Imports = full.Imports[:n]
		call{u, fullEnv[:2]}.wantHold(t)
	}
	uses.Check(full, fullEnv)
	if !reflect.DeepEqual(full, was) || !reflect.DeepEqual(fullEnv, wasEnv) {
		t.Error("Check changed what it was handed")
	}
}

// Nothing is kept: the same texts mean other things in another environment.
func TestKeepsNothing(t *testing.T) {
	const s = "import q 1 n as r use r.f : r.T"
	for range 3 {
		want(t, s, env(t, "q 1 n; T = Int; f : Int"), 0, 0)
		want(t, s, env(t, "q 1 n; T = Int; f : Text"), api.ErrType, 0)
		want(t, s, env(t, "q 1 n; T = Text; f : Text"), 0, 0)
		want(t, s, env(t, "q 1 n; f : Text"), api.ErrNone, 0)
		want(t, s, nil, api.ErrNone, 0)
		want(t, "import q 2 n as r use r.f : r.T", env(t, "q 1 n; T = Int; f : Int"), api.ErrNone, 0)
	}
	// A Spot is one's own.
	c := call{said(t, "use r.f : Int"), nil}
	first := uses.Check(c.u, c.env)
	var spot *api.Spot
	if !errors.As(first, &spot) {
		t.Fatal(first)
	}
	spot.At, spot.Err = 7, api.ErrFull
	c.wantSpot(t, api.ErrName, 0)
}

// All clients of a few lines, in some environments.
func TestAllSmall(t *testing.T) {
	menu := said(t, "use r.f : Int use r.f : r.T use r.f : s.T use s.f : {} use r.g : {a: r.U} use r.f : T use x.f : Int use r.h : r.U use s.f : List(r.U) is r.T = Int is r.T = r.T is s.T = r.T is r.U = {a: s.T} is r.U = U is x.T = r.T is s.V = [A: r.T] is r.T = x.T is s.T = {}").Lines
	a, b := "q 1 n; T = Int; U = {a: Int}; f : Int; g : {a: {a: Int}, b: Text}", "q 2 n; T = Int; V = [A: Int]; f : {a: Int}; h : <q 2 n O>"
	envs := [][]api.Iface{nil, env(t, a), env(t, b), env(t, a, b), env(t, b, a), env(t, "q 1 n; T = T; U = Text; f : T; g : Text", b), env(t, "q 2 n; T = {}; f : List(Text)", b, a)}
	r, s := imp("q", 1, "n", "r"), imp("q", 2, "n", "s")
	found := map[api.Code]int{}
	for _, l := range [][]api.Import{nil, {r}, {s}, {r, s}, {s, r}, {r, r}, {r, s, imp("q", 1, "n", "s")}, {imp("q", 2, "n", "r"), imp("q", 1, "n", "s")}, {r, imp("q", 1, "n", "s")}} {
		var walk func(u api.Uses)
		walk = func(u api.Uses) {
			for _, x := range envs {
				found[call{u, x}.wantHold(t)]++
			}
			if len(u.Lines) == 3 || len(u.Lines) > 0 && len(l) != 2 {
				return
			}
			for _, m := range menu {
				walk(client(l, append(slices.Clip(u.Lines), m)...))
			}
		}
		walk(client(l))
	}
	for _, code := range []api.Code{0, api.ErrTwice, api.ErrName, api.ErrNone, api.ErrType} {
		if found[code] < 100 {
			t.Errorf("error %d was told %d times", code, found[code])
		}
	}
}

// someType is of few parts; its Locals are of these names.
func someType(r *rand.Rand, levels int, names []string) api.Type {
	if levels == 1 || r.Intn(4) == 0 {
		if len(names) > 0 && r.Intn(2) == 0 {
			mod, name, _ := strings.Cut(names[r.Intn(len(names))], ".")
			return local(mod, name)
		}
		return []api.Type{intT, textT, record(""), open("q", 1, "n", "O")}[r.Intn(4)]
	}
	s := func() api.Type { return someType(r, levels-1, names) }
	return []func() api.Type{
		func() api.Type { return list(s()) },
		func() api.Type { return record("a b", s(), s()) },
		func() api.Type { return sample.Variant("A B", s(), s()) },
		func() api.Type { return fn(s(), s(), s()) },
		func() api.Type { return fn(s(), s(), s(), s(), s(), s()) },
	}[r.Intn(5)]()
}

// someEnv is an environment of two interfaces, each of as many types and values.
func someEnv(r *rand.Rand, levels int) []api.Iface {
	var all []api.Iface
	for major := 1; major <= 2; major++ {
		x := api.Iface{Pkg: "q", Major: major, Mod: "n"}
		for i := range 3 {
			x.Types = append(x.Types, api.Named{Name: "T" + strconv.Itoa(i), Type: someType(r, 1+r.Intn(levels), nil)})
			x.Vals = append(x.Vals, api.Named{Name: "v" + strconv.Itoa(i), Type: someType(r, 1+r.Intn(levels), nil)})
		}
		all = append(all, x)
	}
	return all
}

// folded puts Locals in for what the environment has of a type.
func folded(r *rand.Rand, all []api.Iface, o api.Type) api.Type {
	for i, x := range all {
		for _, n := range x.Types {
			if kind.Same(n.Type, o) && r.Intn(3) > 0 {
				return local([]string{"r", "s"}[i], n.Name)
			}
		}
	}
	o.Subs = slices.Clone(o.Subs)
	for i, s := range o.Subs {
		o.Subs[i] = folded(r, all, s)
	}
	return o
}

// Lines that are typed, or nearly so: types that a value's may stand for, with Locals in them.
func TestMany(t *testing.T) {
	r := rand.New(rand.NewSource(1111))
	found := map[api.Code]int{}
	names := []string{"r.T0", "r.T1", "s.T2", "s.T0"}
	for range 8000 {
		c := call{client(imports(imp("q", 1, "n", "r"), imp("q", 2, "n", "s"))), someEnv(r, 1+r.Intn(4))}
		for range 1 + r.Intn(5) {
			i, k := r.Intn(2), r.Intn(3)
			x, mod, n := c.env[i], []string{"r", "s"}[i], strconv.Itoa(k)
			l := []api.Line{
				use(mod, "v"+n, folded(r, c.env, sample.Looser(r.Intn, x.Vals[k].Type, true))),
				use(mod, "v"+n, folded(r, c.env, sample.Looser(r.Intn, x.Vals[k].Type, true))),
				is(mod, "T"+n, folded(r, c.env, x.Types[k].Type)),
			}[r.Intn(3)]
			switch r.Intn(25) {
			case 0:
				l.Type = folded(r, c.env, sample.Looser(r.Intn, l.Type, false))
			case 1:
				l.Type = someType(r, 5+r.Intn(3), names)
			case 2:
				l.Type = someType(r, 2, append(names, "x.T0", "s.T9"))
			case 3:
				l.Type = sample.Looser(r.Intn, l.Type, true)
			case 4:
				l.Name = l.Name[:1] + strconv.Itoa(r.Intn(5))
			}
			if kind.May(l.Type) {
				c.u.Lines = append(c.u.Lines, l)
			}
		}
		found[c.wantHold(t)]++
	}
	for _, code := range []api.Code{0, api.ErrName, api.ErrNone, api.ErrLarge, api.ErrType} {
		if found[code] < 50 {
			t.Errorf("error %d was told %d times", code, found[code])
		}
	}
}
