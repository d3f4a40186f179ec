// Package sample builds types and modules in few words: the tests of the layers stand on it, the layers don't.
package sample

import (
	"errors"
	"slices"
	"strings"

	"merlon/api"
)

// Types.

func Int() api.Type { return api.Type{Kind: api.Int} }

func Text() api.Type { return api.Type{Kind: api.Text} }

func Bool() api.Type { return api.Type{Kind: api.Bool} }

func List(s api.Type) api.Type { return api.Type{Kind: api.List, Subs: []api.Type{s}} }

// Func is of its parameters, and then its result.
func Func(subs ...api.Type) api.Type { return api.Type{Kind: api.Func, Subs: subs} }

// Record is of names with spaces between.
func Record(names string, subs ...api.Type) api.Type {
	return api.Type{Kind: api.Record, Names: strings.Fields(names), Subs: subs}
}

// Variant is of names with spaces between.
func Variant(names string, subs ...api.Type) api.Type {
	return api.Type{Kind: api.Variant, Names: strings.Fields(names), Subs: subs}
}

func Local(mod, name string) api.Type { return api.Type{Kind: api.Local, Mod: mod, Name: name} }

func Open(pkg string, major int, mod, name string) api.Type {
	return api.Type{Kind: api.Open, Pkg: pkg, Major: major, Mod: mod, Name: name}
}

// CloneType is a type with lists of its own, at all levels.
func CloneType(t api.Type) api.Type {
	t.Names = slices.Clone(t.Names)
	t.Subs = slices.Clone(t.Subs)
	for i, s := range t.Subs {
		t.Subs[i] = CloneType(s)
	}
	return t
}

// Modules.

func Import(pkg string, major int, mod, as string) api.Import {
	return api.Import{Pkg: pkg, Major: major, Mod: mod, As: as}
}

func Opaque(name string) api.Decl { return api.Decl{Kind: api.Opaque, Name: name} }

func Hidden(name string) api.Decl { return api.Decl{Kind: api.Hidden, Name: name} }

func Alias(name string, t api.Type) api.Decl { return api.Decl{Kind: api.Alias, Name: name, Type: t} }

func Val(name string, t api.Type) api.Decl { return api.Decl{Kind: api.Val, Name: name, Type: t} }

func Module(name string, imports []api.Import, decls ...api.Decl) api.Module {
	return api.Module{Name: name, Imports: imports, Decls: decls}
}

// CloneModule is a module with lists of its own, at all levels.
func CloneModule(m api.Module) api.Module {
	m.Imports = slices.Clone(m.Imports)
	m.Decls = slices.Clone(m.Decls)
	for i, d := range m.Decls {
		m.Decls[i].Type = CloneType(d.Type)
	}
	return m
}

// IsSpot tells whether an error is a Spot itself, of a code, at a place.
func IsSpot(err error, code api.Code, at int) bool {
	var s *api.Spot
	return errors.As(err, &s) && err == error(s) && s.At == at && s.Err == code && errors.Is(err, code)
}
