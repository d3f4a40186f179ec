package fresh_test

import (
	"reflect"
	"slices"
	"strconv"
	"strings"
	"testing"
	"unsafe"

	"merlon/api"
	"merlon/fresh"
	"merlon/kind"
	"merlon/sample"
)

// named is a list of types with names, as new texts.
func named(first string, l ...api.Type) []api.Named {
	var all []api.Named
	for i, o := range l {
		all = append(all, api.Named{Name: first + strconv.Itoa(i), Type: o})
	}
	return all
}

// samples are types of all Kinds, with all their fields, that may be or not.
func samples() []api.Type {
	i := sample.Int()
	return []api.Type{{}, i, sample.Text(), sample.Bool(), sample.List(i), sample.Record("a b", i, sample.Text()), sample.Record(""), sample.Variant("A B", i, sample.Local("m", "T")),
		sample.Func(i, sample.Bool(), i), sample.Local("", "T"), sample.Local("mm", "Tt"), sample.Open("pp", 7, "mm", "Tt"),
		sample.List(sample.Record("x y", sample.List(sample.Open("pp", 1, "mm", "Tt")), sample.Func(i))),
		{Kind: -5, Pkg: "P P", Major: -1, Mod: "M", Name: "", Names: []string{"b", "", "a"}, Subs: []api.Type{{}, {Kind: 77, Subs: []api.Type{{Kind: 9, Names: []string{"z"}}}}}},
		{Kind: api.Record, Names: []string{}, Subs: []api.Type{}}, {Kind: api.Int, Names: []string{}}, {Kind: api.Int, Subs: []api.Type{{Names: []string{}, Subs: []api.Type{}}}}}
}

// A copy is alike in all fields, also where it may not be; nil lists stay nil, empty ones empty.
func TestType(t *testing.T) {
	for _, o := range samples() {
		was := sample.CloneType(o)
		if got := fresh.Type(o); !reflect.DeepEqual(got, was) {
			t.Errorf("Type(%v) = %v", was, got)
		}
		if !reflect.DeepEqual(o, was) {
			t.Errorf("%v was changed", was)
		}
	}
}

func TestIface(t *testing.T) {
	for _, x := range []api.Iface{
		{}, {Pkg: "p", Major: 1, Mod: "m"}, {Pkg: "P", Major: -3, Mod: "M", Types: named("a", samples()...), Vals: named("B", sample.Int())},
		{Types: named("T", sample.Int())}, {Vals: named("v", samples()...)}, {Types: []api.Named{}, Vals: []api.Named{}}, {Types: []api.Named{{}, {}}},
	} {
		if got := fresh.Iface(x); !reflect.DeepEqual(got, x) {
			t.Errorf("Iface(%v) = %v", x, got)
		}
	}
}

// memory is where each text, of one byte at least, and each list of a type lies.
func memory(o api.Type) []uintptr {
	var l []uintptr
	for _, s := range append(slices.Clone(o.Names), o.Pkg, o.Mod, o.Name) {
		if s != "" {
			l = append(l, uintptr(unsafe.Pointer(unsafe.StringData(s))))
		}
	}
	if len(o.Names) > 0 {
		l = append(l, uintptr(unsafe.Pointer(&o.Names[0])))
	}
	if len(o.Subs) > 0 {
		l = append(l, uintptr(unsafe.Pointer(&o.Subs[0])))
	}
	for _, s := range o.Subs {
		l = append(l, memory(s)...)
	}
	return l
}

func memoryOf(x api.Iface) []uintptr {
	l := memory(api.Type{Pkg: x.Pkg, Mod: x.Mod})
	for _, of := range [][]api.Named{x.Types, x.Vals} {
		if len(of) > 0 {
			l = append(l, uintptr(unsafe.Pointer(&of[0])))
		}
		for _, n := range of {
			l = append(l, memory(n.Type)...)
			l = append(l, memory(api.Type{Name: n.Name})...)
		}
	}
	return l
}

// wantApart holds that no two of them lie in one place.
func wantApart(t *testing.T, what string, l []uintptr) {
	t.Helper()
	l = slices.Sorted(slices.Values(l))
	if len(l) != len(slices.Compact(slices.Clone(l))) {
		t.Errorf("%s: two lists, or texts, are one", what)
	}
}

func TestNewMemory(t *testing.T) {
	for _, o := range samples() {
		o = sample.CloneType(o)
		a, b := fresh.Type(o), fresh.Type(o)
		text, _ := kind.Print(o)
		wantApart(t, text+" and its copies", slices.Concat(slices.Compact(slices.Sorted(slices.Values(memory(o)))), memory(a), memory(b)))
	}
	// A list that stands in one type many times over is a list of its own each time.
	shared := sample.Record("a b", sample.List(sample.Open("pp", 1, "mm", "Tt")), sample.Int())
	whole := sample.Func(shared, sample.List(shared), shared)
	wantApart(t, "a shared record", memory(fresh.Type(whole)))
	x := api.Iface{Pkg: "pp", Major: 1, Mod: "mm", Types: named("Tt", shared, whole, shared), Vals: named("vv", whole, shared)}
	own := memoryOf(fresh.Iface(x))
	wantApart(t, "an interface", own)
	for _, at := range memoryOf(x) {
		if slices.Contains(own, at) {
			t.Error("an interface's copy shares memory with it")
		}
	}
	// Of a type of 2^15 types, too.
	for range 12 {
		shared = sample.Func(shared, shared)
	}
	wantApart(t, "a great type", memory(fresh.Type(shared)))
}

// What lies behind a list in its memory stays there.
func TestStays(t *testing.T) {
	o := sample.Func(append([]api.Type{sample.Int(), sample.Text()}, sample.Local("", "Behind"))[:2]...)
	made := fresh.Type(o)
	made.Subs = append(made.Subs, sample.Bool())
	made.Subs[0] = sample.Bool()
	if o.Subs[0].Kind != api.Int || o.Subs[:3][2].Name != "Behind" {
		t.Error("what was handed in was changed")
	}
}

// alike goes down the same way in both, so deep.
func alike(a, b api.Type, depth int, next func(n int) int) bool {
	for ; depth > 0; depth-- {
		if a.Kind != b.Kind || a.Name != b.Name || !slices.Equal(a.Names, b.Names) || len(a.Subs) != len(b.Subs) {
			return false
		}
		if len(a.Subs) == 0 {
			return true
		}
		i := next(len(a.Subs))
		a, b = a.Subs[i], b.Subs[i]
	}
	return true
}

func wantAlike(t *testing.T, what string, a, b api.Type) {
	t.Helper()
	for _, step := range []int{0, 1, 2, 3, 5, 7} {
		at := 0
		next := func(n int) int {
			at += step
			return at % n
		}
		if !alike(a, b, 300000, next) {
			t.Errorf("%s: the copy is unlike", what)
		}
	}
}

// P1: types that lie in themselves, that share their lists without end, that are deep or wide.
func TestEnds(t *testing.T) {
	for _, n := range []int{1, 2, 3, 20} {
		for same := range 2 {
			in := make([]api.Type, n)
			for i := range in {
				in[i] = api.Type{Kind: i, Name: "A" + strconv.Itoa(i), Names: []string{"a"}, Subs: in[i*same:]}
			}
			got := fresh.Type(api.Type{Kind: 5, Subs: in})
			wantAlike(t, "a circle", api.Type{Kind: 5, Subs: in}, got)
			was := got.Subs[n-1]
			clear(in)
			if !reflect.DeepEqual(got.Subs[n-1].Names, []string{"a"}) || !alike(was, got.Subs[n-1], 300000, func(n int) int { return n - 1 }) || got.Subs[0].Name != "A0" {
				t.Error("the copy of a circle shares memory with it")
			}
		}
	}
	shared := sample.Record("a", sample.Int())
	for range 1000 {
		shared = sample.Func(shared, sample.Text(), shared)
	}
	wantAlike(t, "a shared type", shared, fresh.Type(shared))
	deep := sample.Record("a", sample.Int())
	for range 1 << 17 {
		deep = sample.List(deep)
	}
	wantAlike(t, "a deep type", deep, fresh.Type(deep))
	wide := sample.Func(slices.Repeat([]api.Type{sample.List(sample.Int())}, 1<<17)...)
	wantAlike(t, "a wide type", wide, fresh.Type(wide))
	x := api.Iface{Types: slices.Repeat([]api.Named{{Name: "T", Type: shared}}, 20), Vals: named("v", deep, wide)}
	got := fresh.Iface(x)
	for i := range x.Types {
		wantAlike(t, "of an interface", x.Types[i].Type, got.Types[i].Type)
	}
	wantAlike(t, "of an interface", x.Vals[0].Type, got.Vals[0].Type)
}

// Lists of one place, but of other lengths, are other lists.
func TestPieces(t *testing.T) {
	all := []api.Type{sample.Int(), sample.Text(), sample.Bool()}
	piece := sample.Func(sample.Func(all[:1]...), sample.Func(all[:2]...), sample.Func(all...), sample.Func(all[1:]...), sample.Func(all[:0]...))
	// Behind so many others that lists are known again.
	o := sample.Func(append(slices.Repeat([]api.Type{sample.Int()}, 1<<17), piece, piece)...)
	got := fresh.Type(o)
	for _, s := range got.Subs[1<<17:] {
		if !reflect.DeepEqual(s, piece) {
			t.Errorf("%v; want %v", s, piece)
		}
	}
	if strings.Join(got.Names, "") != "" || len(got.Subs) != 1<<17+2 {
		t.Error("the list around them is unlike")
	}
}
