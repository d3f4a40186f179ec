package lookup_test

import (
	"testing"

	"merlon/api"
	"merlon/kind"
	"merlon/lookup"
	"merlon/sample"
)

func TestImport(t *testing.T) {
	l := []api.Import{sample.Import("p", 1, "m", "b"), sample.Import("p", 2, "m", "a"), sample.Import("q", 3, "b", "b")}
	for as, want := range map[string]api.Import{"b": l[0], "a": l[1]} {
		if got, has := lookup.Import(l, as); !has || got != want {
			t.Errorf("%s: %v, %t", as, got, has)
		}
	}
	for _, as := range []string{"", "p", "m", "q", "c", "A", "aa"} {
		if got, has := lookup.Import(l, as); has || got != (api.Import{}) {
			t.Errorf("%s: %v, %t", as, got, has)
		}
	}
	if _, has := lookup.Import(nil, ""); has {
		t.Error("one of none")
	}
	if got, has := lookup.Import([]api.Import{{Pkg: "p"}}, ""); !has || got.Pkg != "p" {
		t.Error("one without an As")
	}
}

// All of Pkg, Major and Mod count, and the first one.
func TestIface(t *testing.T) {
	var env []api.Iface
	for i, x := range []api.Iface{{Pkg: "q", Major: 1, Mod: "m"}, {Pkg: "p", Major: 2, Mod: "m"}, {Pkg: "p", Major: 1, Mod: "n"}, {Pkg: "p", Major: 1, Mod: "m"}, {Pkg: "p", Major: 1, Mod: "m"}} {
		x.Vals = []api.Named{{Name: string(rune('a' + i))}}
		env = append(env, x)
	}
	for want, i := range []api.Import{sample.Import("q", 1, "m", "n"), sample.Import("p", 2, "m", "p"), sample.Import("p", 1, "n", ""), sample.Import("p", 1, "m", "q")} {
		if x, has := lookup.Iface(env, i); !has || &x.Vals[0] != &env[want].Vals[0] {
			t.Errorf("%v: %v, %t", i, x, has)
		}
	}
	for _, i := range []api.Import{{}, sample.Import("q", 2, "m", "q"), sample.Import("q", 1, "n", "q"), sample.Import("r", 1, "m", "q"), sample.Import("m", 1, "p", "q")} {
		if x, has := lookup.Iface(env, i); has || x.Pkg != "" || len(x.Vals) != 0 {
			t.Errorf("%v: %v, %t", i, x, has)
		}
	}
	if _, has := lookup.Iface(nil, api.Import{}); has {
		t.Error("one of none")
	}
	if _, has := lookup.Iface([]api.Iface{{}}, api.Import{As: "a"}); !has {
		t.Error("one of no name")
	}
}

func TestType(t *testing.T) {
	l := []api.Named{{Name: "b", Type: sample.Int()}, {Name: "a", Type: sample.Text()}, {Name: "b", Type: sample.Bool()}, {Name: "z"}}
	for name, want := range map[string]api.Type{"b": sample.Int(), "a": sample.Text()} {
		if got, has := lookup.Type(l, name); !has || !kind.Same(got, want) {
			t.Errorf("%s: %v, %t", name, got, has)
		}
	}
	if got, has := lookup.Type(l, "z"); !has || got.Kind != 0 {
		t.Errorf("z: %v, %t", got, has)
	}
	for _, name := range []string{"", "c", "aa", "B"} {
		if got, has := lookup.Type(l, name); has || got.Kind != 0 {
			t.Errorf("%s: %v, %t", name, got, has)
		}
	}
	if _, has := lookup.Type(nil, ""); has {
		t.Error("one of none")
	}
}

func TestAgain(t *testing.T) {
	own := func(s string) string { return s }
	for s, want := range map[string]int{"": -1, "a": -1, "ab": -1, "aa": 1, "aba": 2, "abb": 2, "abcab": 3, "abcba": 3, "aaa": 1, "abcdefgha": 8} {
		var l []string
		for _, r := range s {
			l = append(l, string(r))
		}
		if got := lookup.Again(l, own); got != want {
			t.Errorf("%s: %d; want %d", s, got, want)
		}
	}
	if got := lookup.Again([]int{1, 2, 12, 3, 21}, func(n int) string { return string(rune('a' + n%10)) }); got != 2 {
		t.Errorf("numbers by their last digit: %d", got)
	}
}
