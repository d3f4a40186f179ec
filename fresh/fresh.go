// Package fresh makes copies in new memory, lists and texts of their own at all levels: what the layers tell of what they were handed.
package fresh

import (
	"strings"

	"merlon/api"
)

// Iface is a copy of an interface.
func Iface(x api.Iface) api.Iface {
	return api.Iface{
		Pkg:   strings.Clone(x.Pkg),
		Major: x.Major,
		Mod:   strings.Clone(x.Mod),
		Types: list(x.Types, named),
		Vals:  list(x.Vals, named),
	}
}

func named(n api.Named) api.Named {
	return api.Named{Name: strings.Clone(n.Name), Type: Type(n.Type)}
}

// Type is a copy of a type, whether it may be or not.
func Type(t api.Type) api.Type {
	c := copier{left: most, known: map[span][]api.Type{}}
	return c.copy(t)
}

// list is a copy of a list; of none it is none.
func list[T any](l []T, own func(T) T) []T {
	if l == nil {
		return nil
	}
	made := make([]T, len(l))
	for i, x := range l {
		made[i] = own(x)
	}
	return made
}

// most is how many types are copied as often as they stand in a type. It is
// far above what one that may be has.
const most = 1 << 16

// copier copies one type. One that may not be may lie in itself, or share its
// lists so often that there are too many to go through: so beyond most each
// list is copied once, and is shared where it was shared.
type copier struct {
	left  int
	known map[span][]api.Type
}

// span is a list's place, by which it is known again.
type span struct {
	first *api.Type
	size  int
}

func (c *copier) copy(t api.Type) api.Type {
	return api.Type{
		Kind:  t.Kind,
		Pkg:   strings.Clone(t.Pkg),
		Major: t.Major,
		Mod:   strings.Clone(t.Mod),
		Name:  strings.Clone(t.Name),
		Names: list(t.Names, strings.Clone),
		Subs:  c.subs(t.Subs),
	}
}

func (c *copier) subs(l []api.Type) []api.Type {
	if c.left > 0 || len(l) == 0 {
		c.left -= len(l)
		return list(l, c.copy)
	}
	at := span{first: &l[0], size: len(l)}
	made, has := c.known[at]
	if !has {
		made = make([]api.Type, len(l))
		c.known[at] = made
		for i, s := range l {
			made[i] = c.copy(s)
		}
	}
	return made
}
