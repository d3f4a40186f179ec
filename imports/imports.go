// Package imports holds what modules, clients and programs have alike: imports, a line of text each. See shared/doc/06-syntax.md.
package imports

import (
	"slices"
	"strconv"

	"merlon/api"
	"merlon/cursor"
	"merlon/ident"
)

// May tells whether they may be.
func May(l []api.Import) bool {
	return len(l) <= api.MaxImports && !slices.ContainsFunc(l, mayNot)
}

func mayNot(i api.Import) bool {
	return !ident.Small(i.Pkg) || i.Major < 1 || i.Major > api.MaxPart || !ident.Small(i.Mod) || !ident.Small(i.As)
}

// Text is their lines.
func Text(l []api.Import) string {
	s := ""
	for _, i := range l {
		s += "import " + i.Pkg + " " + strconv.Itoa(i.Major) + " " + i.Mod + " as " + i.As + "\n"
	}
	return s
}

// Read takes as many as stand there. One too many is told at its key, so
// nothing of it is looked at.
func Read(c *cursor.Cursor) []api.Import {
	var l []api.Import
	for c.AtKey("import") {
		c.Must(len(l) < api.MaxImports, api.ErrLarge)
		c.Pass()
		l = append(l, read(c))
	}
	return l
}

func read(c *cursor.Cursor) api.Import {
	pkg := c.Word(cursor.Small)
	major := c.Number(1)
	mod := c.Word(cursor.Small)
	c.Key("as")
	return api.Import{Pkg: pkg, Major: major, Mod: mod, As: c.Word(cursor.Small)}
}
