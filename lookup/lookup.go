// Package lookup finds things by their names, in lists that may have any order. What it finds isn't copied: a layer that tells of it, or changes it, makes a copy.
package lookup

import (
	"slices"

	"merlon/api"
)

// Import is the first one that is known by that name.
func Import(l []api.Import, as string) (api.Import, bool) {
	return first(l, func(i api.Import) bool { return i.As == as })
}

// Iface is an import's interface: the first one of its Pkg, Major and Mod.
func Iface(env []api.Iface, i api.Import) (api.Iface, bool) {
	return first(env, func(x api.Iface) bool { return x.Pkg == i.Pkg && x.Major == i.Major && x.Mod == i.Mod })
}

// Type is the first one's type of that name.
func Type(l []api.Named, name string) (api.Type, bool) {
	n, has := first(l, func(x api.Named) bool { return x.Name == name })
	return n.Type, has
}

func first[T any](l []T, is func(T) bool) (T, bool) {
	i := slices.IndexFunc(l, is)
	if i < 0 {
		var zero T
		return zero, false
	}
	return l[i], true
}

// Again is the number of the first one whose name is one's ahead of it; or -1.
func Again[T any](l []T, name func(T) string) int {
	for i, x := range l {
		alike := func(y T) bool { return name(y) == name(x) }
		if slices.ContainsFunc(l[:i], alike) {
			return i
		}
	}
	return -1
}
