// Package sample builds types, modules, interfaces and clients in few words: the tests of the layers stand on it, the layers don't.
package sample

import (
	"errors"
	"slices"
	"strconv"
	"strings"

	"merlon/api"
	"merlon/expr"
)

// Types.

func Int() api.Type { return api.Type{Kind: api.Int} }

func Text() api.Type { return api.Type{Kind: api.Text} }

func Bool() api.Type { return api.Type{Kind: api.Bool} }

func List(s api.Type) api.Type { return api.Type{Kind: api.List, Subs: []api.Type{s}} }

// Func is of its parameters, and then its result.
func Func(subs ...api.Type) api.Type { return api.Type{Kind: api.Func, Subs: subs} }

// Record is of names with spaces between.
func Record(names string, subs ...api.Type) api.Type {
	return api.Type{Kind: api.Record, Names: strings.Fields(names), Subs: subs}
}

// Variant is of names with spaces between.
func Variant(names string, subs ...api.Type) api.Type {
	return api.Type{Kind: api.Variant, Names: strings.Fields(names), Subs: subs}
}

func Local(mod, name string) api.Type { return api.Type{Kind: api.Local, Mod: mod, Name: name} }

func Open(pkg string, major int, mod, name string) api.Type {
	return api.Type{Kind: api.Open, Pkg: pkg, Major: major, Mod: mod, Name: name}
}

// Nested is a type of n Lists around another one.
func Nested(n int, t api.Type) api.Type {
	for range n {
		t = List(t)
	}
	return t
}

// Wide is a Func of n Subs.
func Wide(n int, s api.Type) api.Type { return Func(slices.Repeat([]api.Type{s}, n)...) }

// Sized is a type of n types in all, 4 levels deep at most, of which the last one is another one, that counts as one here.
func Sized(n int, last api.Type) api.Type {
	if n == 1 {
		return last
	}
	t := Func()
	for left := n - 1; left > 0; {
		take := min(left, (n-1+19)/20)
		left -= take
		s := Int()
		if left == 0 {
			s = last
		}
		t.Subs = append(t.Subs, Sized(take, s))
	}
	return t
}

// AnyType is a type that may be, of at most so many levels, by numbers that pick tells: each from 0 on, below the one it is asked for.
func AnyType(pick func(int) int, levels int) api.Type {
	if levels == 1 {
		return []api.Type{Int(), Text(), Bool(), Local("", "T"), Local("m", "U"), Open("p", 1+pick(9), "q", "X"), Record("")}[pick(7)]
	}
	s := func() api.Type { return AnyType(pick, 1+pick(levels-1)) }
	switch pick(5) {
	case 0:
		return List(s())
	case 1:
		return Record("a b2 cc", s(), s(), s())
	case 2:
		return Variant("A Bb", s(), s())
	case 3:
		return Func(s())
	}
	return Func(s(), s(), s())
}

// Looser is a type that one may stand for, or, with up false, that may stand for it; pick is as AnyType's.
func Looser(pick func(int) int, t api.Type, up bool) api.Type {
	t = CloneType(t)
	for i, s := range t.Subs {
		t.Subs[i] = Looser(pick, s, up == (t.Kind != api.Func || i == len(t.Subs)-1))
	}
	switch {
	case t.Kind == api.Record && up && len(t.Subs) > 0 && pick(2) == 0:
		t.Subs, t.Names = t.Subs[1:], t.Names[1:]
	case t.Kind == api.Record && !up && len(t.Subs) < api.MaxSubs && pick(2) == 0:
		t.Subs, t.Names = append(t.Subs, Int()), append(t.Names, "z"+strconv.Itoa(10+len(t.Subs)))
	case t.Kind == api.Variant && up && len(t.Subs) < api.MaxSubs && pick(2) == 0:
		t.Subs, t.Names = append(t.Subs, Text()), append(t.Names, "Z"+strconv.Itoa(10+len(t.Subs)))
	case t.Kind == api.Variant && !up && len(t.Subs) > 1 && pick(2) == 0:
		t.Subs, t.Names = t.Subs[1:], t.Names[1:]
	}
	return t
}

// CloneType is a type with lists of its own, at all levels.
func CloneType(t api.Type) api.Type {
	t.Names = slices.Clone(t.Names)
	t.Subs = slices.Clone(t.Subs)
	for i, s := range t.Subs {
		t.Subs[i] = CloneType(s)
	}
	return t
}

// SpoilType spoils a type's lists, what lies behind them too.
func SpoilType(t api.Type) {
	for _, s := range t.Subs {
		SpoilType(s)
	}
	for i := range t.Subs[:cap(t.Subs)] {
		t.Subs[:cap(t.Subs)][i] = api.Type{Kind: -1}
	}
	for i := range t.Names[:cap(t.Names)] {
		t.Names[:cap(t.Names)][i] = "spoilt"
	}
}

// TextsOfType are a type's texts, and those in it.
func TextsOfType(t api.Type) []string {
	l := append([]string{t.Pkg, t.Mod, t.Name}, t.Names...)
	for _, s := range t.Subs {
		l = append(l, TextsOfType(s)...)
	}
	return l
}

// Names.

func GoodSmall() []string {
	return []string{"a", "z", "x1", "int", "list", "let", "if", "fn", "u", "used", "iss", "vals", "modul", "modules", "imports", "asa", strings.Repeat("a", 20), "z" + strings.Repeat("9", 19)}
}

func GoodGreat() []string {
	return []string{"A", "Z", "X1", "Point2D", "INT", "Lists", "Module", "Use", "Is", strings.Repeat("A", 20), "Z" + strings.Repeat("z", 19)}
}

// BadSmall are no small names: words, that are one token each, and others.
func BadSmall() (words, others []string) {
	words = []string{"A", "aB", "Int", "T", "as", "alias", "dep", "hidden", "import", "is", "module", "opaque", "package", "use", "val", "version", strings.Repeat("a", 21), strings.Repeat("a", 300), "1", "01", "=", "->", ":", "("}
	return words, []string{"", " ", "a b", "a ", " a", "a.b", "a_b", "1a", "\u00e9", "a\x00", "-a", "a\n", "a#"}
}

// BadGreat are no great names, likewise.
func BadGreat() (words, others []string) {
	words = []string{"a", "Int", "Text", "Bool", "List", "val", "is", "opaque", strings.Repeat("A", 21), strings.Repeat("A", 300), "1", "0", ",", "{", "="}
	return words, []string{"", " ", "A B", "A ", " A", "A.B", "A_B", "1A", "\u00c9", "A\x00", "m.A", "A\n"}
}

// Modules.

func Import(pkg string, major int, mod, as string) api.Import {
	return api.Import{Pkg: pkg, Major: major, Mod: mod, As: as}
}

func Opaque(name string) api.Decl { return api.Decl{Kind: api.Opaque, Name: name} }

func Hidden(name string) api.Decl { return api.Decl{Kind: api.Hidden, Name: name} }

func Alias(name string, t api.Type) api.Decl { return api.Decl{Kind: api.Alias, Name: name, Type: t} }

func Val(name string, t api.Type) api.Decl { return api.Decl{Kind: api.Val, Name: name, Type: t} }

func Module(name string, imports []api.Import, decls ...api.Decl) api.Module {
	return api.Module{Name: name, Imports: imports, Decls: decls}
}

// CloneModule is a module with lists of its own, at all levels.
func CloneModule(m api.Module) api.Module {
	m.Imports = slices.Clone(m.Imports)
	m.Decls = slices.Clone(m.Decls)
	for i, d := range m.Decls {
		m.Decls[i].Type = CloneType(d.Type)
	}
	return m
}

// Interfaces.

// Told is the interface of a text such as "p 1 m; T = Int; f : (Int) -> Text": its package, major and module, its types and its values.
func Told(s string) (api.Iface, error) {
	parts := strings.Split(s, "; ")
	head := strings.Fields(parts[0])
	if len(head) != 3 {
		return api.Iface{}, api.ErrForm
	}
	major, err := strconv.Atoi(head[1])
	x := api.Iface{Pkg: head[0], Major: major, Mod: head[2]}
	for _, p := range parts[1:] {
		name, text, ofType := strings.Cut(p, " = ")
		if !ofType {
			name, text, _ = strings.Cut(p, " : ")
		}
		t, amiss := expr.Parse(text)
		err = errors.Join(err, amiss)
		if ofType {
			x.Types = append(x.Types, api.Named{Name: name, Type: t})
		} else {
			x.Vals = append(x.Vals, api.Named{Name: name, Type: t})
		}
	}
	return x, err
}

// Env are the interfaces of texts, as Told reads them.
func Env(l ...string) ([]api.Iface, error) {
	var all []api.Iface
	var amiss error
	for _, s := range l {
		x, err := Told(s)
		amiss = errors.Join(amiss, err)
		all = append(all, x)
	}
	return all, amiss
}

// CloneEnv is an environment with lists of its own, at all levels.
func CloneEnv(env []api.Iface) []api.Iface {
	env = slices.Clone(env)
	for i, x := range env {
		env[i].Types = cloneNamed(x.Types)
		env[i].Vals = cloneNamed(x.Vals)
	}
	return env
}

func cloneNamed(l []api.Named) []api.Named {
	l = slices.Clone(l)
	for i, n := range l {
		l[i].Type = CloneType(n.Type)
	}
	return l
}

// Clients.

func Use(mod, name string, t api.Type) api.Line {
	return api.Line{Kind: api.Use, Mod: mod, Name: name, Type: t}
}

func Is(mod, name string, t api.Type) api.Line {
	return api.Line{Kind: api.Is, Mod: mod, Name: name, Type: t}
}

func Client(imports []api.Import, lines ...api.Line) api.Uses {
	return api.Uses{Imports: imports, Lines: lines}
}

// CloneClient is a client with lists of its own, at all levels.
func CloneClient(u api.Uses) api.Uses {
	u.Imports = slices.Clone(u.Imports)
	u.Lines = slices.Clone(u.Lines)
	for i, l := range u.Lines {
		u.Lines[i].Type = CloneType(l.Type)
	}
	return u
}

// IsSpot tells whether an error is a Spot itself, of a code, at a place.
func IsSpot(err error, code api.Code, at int) bool {
	var s *api.Spot
	return errors.As(err, &s) && err == error(s) && s.At == at && s.Err == code && errors.Is(err, code)
}
