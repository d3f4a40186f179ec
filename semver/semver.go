// Package semver is layer 1: versions, and ranges of them. See shared/doc/01-semver.md.
package semver

import (
	"cmp"
	"strconv"
	"strings"

	"merlon/api"
)

// May tells whether a version may be: P1.1.
func May(v api.Version) bool {
	return v.Major >= 1 && mayPart(v.Major) && mayPart(v.Minor) && mayPart(v.Patch)
}

func mayPart(n int) bool { return n >= 0 && n <= api.MaxPart }

// Parse reads one: P1.1.
func Parse(s string) (api.Version, error) {
	// A missing part is left empty by Cut, and a point too many stays in the
	// last one; parsePart takes neither.
	first, rest, _ := strings.Cut(s, ".")
	second, third, _ := strings.Cut(rest, ".")
	major, okMajor := parsePart(first)
	minor, okMinor := parsePart(second)
	patch, okPatch := parsePart(third)
	v := api.Version{Major: major, Minor: minor, Patch: patch}
	if !okMajor || !okMinor || !okPatch || !May(v) {
		return api.Version{}, api.ErrForm
	}
	return v, nil
}

// parsePart is strict where strconv.Atoi is not: that one takes signs, and
// noughts ahead.
func parsePart(s string) (int, bool) {
	if s == "" || s[0] == '0' && s != "0" {
		return 0, false
	}
	n := 0
	for i := range len(s) {
		if s[i] < '0' || s[i] > '9' {
			return 0, false
		}
		d := int(s[i] - '0')
		// Asked ahead of the step, so that no int overflows, however long s is.
		if n > (api.MaxPart-d)/10 {
			return 0, false
		}
		n = n*10 + d
	}
	return n, true
}

// Print writes one: P1.1.
func Print(v api.Version) (string, error) {
	if !May(v) {
		return "", api.ErrArg
	}
	return text(v), nil
}

func text(v api.Version) string {
	return strconv.Itoa(v.Major) + "." + strconv.Itoa(v.Minor) + "." + strconv.Itoa(v.Patch)
}

// Cmp compares two, whether they may be or not: P1.1.
func Cmp(a, b api.Version) int {
	if c := cmp.Compare(a.Major, b.Major); c != 0 {
		return c
	}
	if c := cmp.Compare(a.Minor, b.Minor); c != 0 {
		return c
	}
	return cmp.Compare(a.Patch, b.Patch)
}

// Next is the next one: P1.2.
func Next(v api.Version, step int) (api.Version, error) {
	if !May(v) {
		return api.Version{}, api.ErrArg
	}
	var n api.Version
	switch step {
	case api.Patch:
		n = api.Version{Major: v.Major, Minor: v.Minor, Patch: v.Patch + 1}
	case api.Minor:
		n = api.Version{Major: v.Major, Minor: v.Minor + 1}
	case api.Major:
		n = api.Version{Major: v.Major + 1}
	default:
		return api.Version{}, api.ErrArg
	}
	if !May(n) {
		return api.Version{}, api.ErrLarge
	}
	return n, nil
}

// MayRange tells whether a range may be: P1.1.
func MayRange(r api.Range) bool {
	return May(r.Lo) && May(r.Hi) && r.Lo.Major == r.Hi.Major && Cmp(r.Lo, r.Hi) < 0
}

// ParseRange reads one: P1.1.
func ParseRange(s string) (api.Range, error) {
	low, high, _ := strings.Cut(s, "..")
	lo, err := Parse(low)
	if err != nil {
		return api.Range{}, err
	}
	hi, err := Parse(high)
	if err != nil {
		return api.Range{}, err
	}
	r := api.Range{Lo: lo, Hi: hi}
	if !MayRange(r) {
		return api.Range{}, api.ErrForm
	}
	return r, nil
}

// PrintRange writes one: P1.1.
func PrintRange(r api.Range) (string, error) {
	if !MayRange(r) {
		return "", api.ErrArg
	}
	return text(r.Lo) + ".." + text(r.Hi), nil
}

// In tells whether a version is in it: P1.2.
func In(r api.Range, v api.Version) bool {
	// Lo and Hi are of one Major, so what lies between them is of it, too.
	return MayRange(r) && May(v) && Cmp(r.Lo, v) <= 0 && Cmp(v, r.Hi) < 0
}
