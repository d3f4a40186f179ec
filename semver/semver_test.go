package semver_test

import (
	"math"
	"regexp"
	"slices"
	"strconv"
	"strings"
	"testing"

	"merlon/api"
	"merlon/semver"
)

func ver(major, minor, patch int) api.Version {
	return api.Version{Major: major, Minor: minor, Patch: patch}
}

func rng(lo, hi api.Version) api.Range { return api.Range{Lo: lo, Hi: hi} }

const most = api.MaxPart

// good rises, and each has the text beside it.
var good = []struct {
	v    api.Version
	text string
}{
	{ver(1, 0, 0), "1.0.0"},
	{ver(1, 0, 1), "1.0.1"},
	{ver(1, 0, 9), "1.0.9"},
	{ver(1, 0, 10), "1.0.10"},
	{ver(1, 0, most), "1.0.999999999"},
	{ver(1, 1, 0), "1.1.0"},
	{ver(1, 2, 3), "1.2.3"},
	{ver(1, 3, 2), "1.3.2"},
	{ver(1, most, 0), "1.999999999.0"},
	{ver(1, most, most), "1.999999999.999999999"},
	{ver(2, 0, 0), "2.0.0"},
	{ver(2, 1, 3), "2.1.3"},
	{ver(10, 20, 30), "10.20.30"},
	{ver(most, 0, 0), "999999999.0.0"},
	{ver(most, most, most), "999999999.999999999.999999999"},
}

var bad = []api.Version{
	ver(0, 0, 0), ver(0, 1, 0), ver(0, 0, 1), ver(-1, 0, 0), ver(1, -1, 0), ver(1, 0, -1),
	ver(most+1, 0, 0), ver(1, most+1, 0), ver(1, 0, most+1),
	ver(math.MaxInt, math.MaxInt, math.MaxInt), ver(math.MinInt, math.MinInt, math.MinInt),
	ver(1, math.MaxInt, 0), ver(1, 0, math.MinInt),
}

var badTexts = []string{
	"", ".", "..", "...", "1", "1.", "1.2", "1.2.", ".1.2", "1..2", ".1.2.3", "1.2.3.", "1.2.3.4", "1.2.3.4.5", "1...2",
	"0.0.0", "0.1.0", "0.0.1", "00.1.1", "01.2.3", "1.02.3", "1.2.03", "1.00.0", "1.0.00", "1.2.000",
	"-1.2.3", "1.-2.3", "1.2.-3", "+1.2.3", "1.+2.3", "1.2.+3", "1.-0.0", "1.2.-0",
	" 1.2.3", "1.2.3 ", "1. 2.3", "1.2.3\n", "\t1.2.3", "1.2.3\x00", "1,2,3", "1.2,3", "v1.2.3", "1.2.3-a", "1.2.3+a",
	"a.b.c", "1.a.3", "1.2.x", "0x1.2.3", "1.0x2.3", "1e1.0.0", "1_0.0.0", "1.2_3.0",
	"1000000000.0.0", "1.1000000000.0", "1.0.1000000000", "9999999999.0.0",
	"4294967297.0.0", "1.4294967297.0", "18446744073709551617.0.0", "1.18446744073709551616.0", "1.0.18446744073709551617",
	"\u0661.0.0", "1.\uff12.0", "\xff.0.0", "1.0.0..1.1.0",
}

func TestMay(t *testing.T) {
	for _, g := range good {
		if !semver.May(g.v) {
			t.Errorf("May(%v) is false", g.v)
		}
	}
	for _, v := range bad {
		if semver.May(v) {
			t.Errorf("May(%v) is true", v)
		}
	}
}

func TestParsePrint(t *testing.T) {
	for _, g := range good {
		if v, err := semver.Parse(g.text); err != nil || v != g.v {
			t.Errorf("Parse(%q) = %v, %v", g.text, v, err)
		}
		if s, err := semver.Print(g.v); err != nil || s != g.text {
			t.Errorf("Print(%v) = %q, %v", g.v, s, err)
		}
	}
}

func TestParseWrong(t *testing.T) {
	long := []string{strings.Repeat("1", 1<<20) + ".0.0", "1." + strings.Repeat("0", 1<<20) + ".0", "1.0." + strings.Repeat("9", 1<<20), strings.Repeat("1.", 1<<20)}
	for _, s := range append(long, badTexts...) {
		if v, err := semver.Parse(s); err != api.ErrForm || v != (api.Version{}) {
			t.Errorf("Parse(%.40q) = %v, %v", s, v, err)
		}
	}
}

func TestPrintWrong(t *testing.T) {
	for _, v := range bad {
		if s, err := semver.Print(v); err != api.ErrArg || s != "" {
			t.Errorf("Print(%v) = %q, %v", v, s, err)
		}
	}
}

var versionText = regexp.MustCompile(`^[1-9][0-9]{0,8}(\.(0|[1-9][0-9]{0,8})){2}$`)

// checkParse holds Parse against the form of a version's text, and what it
// reads against what Print writes.
func checkParse(t *testing.T, s string) {
	t.Helper()
	v, err := semver.Parse(s)
	if !versionText.MatchString(s) {
		if err != api.ErrForm || v != (api.Version{}) {
			t.Fatalf("Parse(%q) = %v, %v", s, v, err)
		}
		return
	}
	back, errBack := semver.Print(v)
	if err != nil || errBack != nil || back != s || !semver.May(v) {
		t.Fatalf("Parse(%q) = %v, %v; printed %q, %v", s, v, err, back, errBack)
	}
}

// eachText gives all texts of the letters, of up to most of them.
func eachText(letters string, most int, do func(string)) {
	var grow func(string)
	grow = func(s string) {
		do(s)
		if len(s) == most {
			return
		}
		for i := range letters {
			grow(s + letters[i:i+1])
		}
	}
	grow("")
}

func TestParseAllShort(t *testing.T) {
	eachText("01.", 10, func(s string) { checkParse(t, s) })
	eachText("09.-+ ", 6, func(s string) { checkParse(t, s) })
}

// eachEdit gives all texts that are one byte away from s.
func eachEdit(s string, do func(string)) {
	for i := 0; i <= len(s); i++ {
		for b := range 256 {
			do(s[:i] + string([]byte{byte(b)}) + s[i:])
			if i < len(s) {
				do(s[:i] + string([]byte{byte(b)}) + s[i+1:])
			}
		}
		if i < len(s) {
			do(s[:i] + s[i+1:])
		}
	}
}

func TestParseAllEdits(t *testing.T) {
	for _, s := range []string{"1.2.3", "10.0.20", "999999999.999999999.999999999"} {
		eachEdit(s, func(e string) { checkParse(t, e) })
	}
}

func sign(n int) int {
	switch {
	case n < 0:
		return -1
	case n > 0:
		return 1
	}
	return 0
}

func TestCmp(t *testing.T) {
	for i, a := range good {
		for j, b := range good {
			if got := semver.Cmp(a.v, b.v); sign(got) != sign(i-j) {
				t.Errorf("Cmp(%v, %v) = %d", a.v, b.v, got)
			}
		}
	}
}

// Versions that may not be are compared, too: by differences one would tell
// the extremes wrong.
func TestCmpExtremes(t *testing.T) {
	parts := []int{math.MinInt, -1, 0, 1, math.MaxInt}
	var rising []api.Version
	for _, a := range parts {
		for _, b := range parts {
			for _, c := range parts {
				rising = append(rising, ver(a, b, c))
			}
		}
	}
	for i, a := range rising {
		for j, b := range rising {
			if got := semver.Cmp(a, b); sign(got) != sign(i-j) {
				t.Fatalf("Cmp(%v, %v) = %d", a, b, got)
			}
		}
	}
}

func TestMayRange(t *testing.T) {
	for i, a := range good {
		for j, b := range good {
			want := i < j && a.v.Major == b.v.Major
			if got := semver.MayRange(rng(a.v, b.v)); got != want {
				t.Errorf("MayRange(%v, %v) = %t", a.v, b.v, got)
			}
		}
	}
	for _, r := range badRanges() {
		if semver.MayRange(r) {
			t.Errorf("MayRange(%v) is true", r)
		}
	}
}

func badRanges() []api.Range {
	l := []api.Range{
		{}, rng(ver(1, 0, 0), ver(1, 0, 0)), rng(ver(1, 1, 0), ver(1, 0, 9)), rng(ver(1, 0, 0), ver(2, 0, 0)), rng(ver(2, 0, 0), ver(1, 9, 0)),
		rng(ver(0, 1, 0), ver(0, 2, 0)), rng(ver(most+1, 0, 0), ver(most+1, 1, 0)), rng(ver(1, -1, 0), ver(1, 0, 0)), rng(ver(1, 0, 0), ver(1, most+1, 0)),
	}
	for _, v := range bad {
		l = append(l, rng(v, ver(v.Major, most, most)), rng(ver(1, 0, 0), v), rng(v, v))
	}
	return l
}

func TestRangeText(t *testing.T) {
	for _, c := range []struct {
		r    api.Range
		text string
	}{
		{rng(ver(1, 2, 0), ver(1, 4, 0)), "1.2.0..1.4.0"},
		{rng(ver(1, 0, 0), ver(1, 0, 1)), "1.0.0..1.0.1"},
		{rng(ver(3, 0, 0), ver(3, most, most)), "3.0.0..3.999999999.999999999"},
		{rng(ver(most, 0, 9), ver(most, 0, 10)), "999999999.0.9..999999999.0.10"},
	} {
		if s, err := semver.PrintRange(c.r); err != nil || s != c.text {
			t.Errorf("PrintRange(%v) = %q, %v", c.r, s, err)
		}
		if r, err := semver.ParseRange(c.text); err != nil || r != c.r {
			t.Errorf("ParseRange(%q) = %v, %v", c.text, r, err)
		}
	}
}

func TestRangeTextWrong(t *testing.T) {
	for _, r := range badRanges() {
		if s, err := semver.PrintRange(r); err != api.ErrArg || s != "" {
			t.Errorf("PrintRange(%v) = %q, %v", r, s, err)
		}
	}
	texts := []string{
		"", "..", "1.0.0", "1.0.0..", "..1.0.0", "1.0.0.1.1.0", "1.0.0...1.1.0", "1.0.0....1.1.0", "1.0.0..1.1.0..1.2.0", "1.0.0..1.1", "1.0..1.1.0",
		"1.0.0..1.0.0", "1.1.0..1.0.0", "1.0.0..2.0.0", "2.0.0..1.1.0", "0.1.0..0.2.0", "0.1.0..1.2.0", "1.0.0 .. 1.1.0", "1.0.0..1.1.0 ", " 1.0.0..1.1.0",
		"01.0.0..1.1.0", "1.0.0..1.01.0", "1.0.0..1.1000000000.0", "1000000000.0.0..1000000000.1.0", "1.-1.0..1.1.0", "1.0.0,,1.1.0", "1.0.0-1.1.0",
	}
	for _, s := range texts {
		if r, err := semver.ParseRange(s); err != api.ErrForm || r != (api.Range{}) {
			t.Errorf("ParseRange(%q) = %v, %v", s, r, err)
		}
	}
	for _, s := range badTexts {
		for _, both := range []string{s + "..1.9.0", "1.0.0.." + s} {
			if r, err := semver.ParseRange(both); err != api.ErrForm || r != (api.Range{}) {
				t.Errorf("ParseRange(%q) = %v, %v", both, r, err)
			}
		}
	}
}

// checkParseRange holds ParseRange against two versions' texts around the
// points, and what it reads against what PrintRange writes.
func checkParseRange(t *testing.T, s string) {
	t.Helper()
	parts := strings.Split(s, "..")
	may := len(parts) == 2 && versionText.MatchString(parts[0]) && versionText.MatchString(parts[1])
	if may {
		lo, hi := numbers(parts[0]), numbers(parts[1])
		may = lo[0] == hi[0] && slices.Compare(lo, hi) < 0
	}
	r, err := semver.ParseRange(s)
	if !may {
		if err != api.ErrForm || r != (api.Range{}) {
			t.Fatalf("ParseRange(%q) = %v, %v", s, r, err)
		}
		return
	}
	back, errBack := semver.PrintRange(r)
	if err != nil || errBack != nil || back != s || !semver.MayRange(r) {
		t.Fatalf("ParseRange(%q) = %v, %v; printed %q, %v", s, r, err, back, errBack)
	}
}

func numbers(s string) []int {
	var l []int
	for _, p := range strings.Split(s, ".") {
		n, _ := strconv.Atoi(p)
		l = append(l, n)
	}
	return l
}

func TestParseRangeAllEdits(t *testing.T) {
	for _, s := range []string{"1.2.0..1.4.0", "10.0.9..10.0.10", "9.9.9..9.999999999.0"} {
		eachEdit(s, func(e string) { checkParseRange(t, e) })
	}
}

func TestNext(t *testing.T) {
	for _, c := range []struct {
		v    api.Version
		step int
		want api.Version
	}{
		{ver(1, 2, 3), api.Patch, ver(1, 2, 4)},
		{ver(1, 2, 3), api.Minor, ver(1, 3, 0)},
		{ver(1, 2, 3), api.Major, ver(2, 0, 0)},
		{ver(1, 0, 0), api.Patch, ver(1, 0, 1)},
		{ver(1, 0, most), api.Minor, ver(1, 1, 0)},
		{ver(1, most, most), api.Major, ver(2, 0, 0)},
		{ver(most-1, most-1, most-1), api.Patch, ver(most-1, most-1, most)},
		{ver(most-1, most-1, most-1), api.Minor, ver(most-1, most, 0)},
		{ver(most-1, most-1, most-1), api.Major, ver(most, 0, 0)},
		{ver(most, most, most-1), api.Patch, ver(most, most, most)},
	} {
		if n, err := semver.Next(c.v, c.step); err != nil || n != c.want {
			t.Errorf("Next(%v, %d) = %v, %v", c.v, c.step, n, err)
		}
	}
}

func wantNext(t *testing.T, v api.Version, step int, want error) {
	t.Helper()
	if n, err := semver.Next(v, step); err != want || n != (api.Version{}) {
		t.Errorf("Next(%v, %d) = %v, %v", v, step, n, err)
	}
}

func TestNextWrong(t *testing.T) {
	noStep := []int{0, 4, -1, -2, -3, math.MaxInt, math.MinInt, math.MinInt + 1, 257, 1<<32 + 1}
	for _, step := range noStep {
		wantNext(t, ver(1, 2, 3), step, api.ErrArg)
		wantNext(t, ver(most, most, most), step, api.ErrArg)
	}
	for _, v := range bad {
		for _, step := range append([]int{api.Patch, api.Minor, api.Major}, noStep...) {
			wantNext(t, v, step, api.ErrArg)
		}
	}
	wantNext(t, ver(1, 0, most), api.Patch, api.ErrLarge)
	wantNext(t, ver(1, most, 0), api.Minor, api.ErrLarge)
	wantNext(t, ver(most, 0, 0), api.Major, api.ErrLarge)
	// What may not be, and would be too large, is an argument at fault first.
	wantNext(t, ver(0, 0, most), api.Patch, api.ErrArg)
	wantNext(t, ver(1, most, -1), api.Minor, api.ErrArg)
}

func TestIn(t *testing.T) {
	for i, lo := range good {
		for j, hi := range good {
			for k, v := range good {
				want := lo.v.Major == hi.v.Major && i <= k && k < j
				if got := semver.In(rng(lo.v, hi.v), v.v); got != want {
					t.Errorf("In(%v, %v, %v) = %t", lo.v, hi.v, v.v, got)
				}
			}
		}
	}
}

func TestInWrong(t *testing.T) {
	wide := rng(ver(1, 0, 0), ver(1, most, most))
	for _, v := range bad {
		if semver.In(wide, v) {
			t.Errorf("In(%v, %v) is true", wide, v)
		}
		if semver.In(rng(ver(0, 0, 0), ver(2, 0, 0)), v) || semver.In(rng(v, ver(v.Major, most+2, 0)), v) {
			t.Errorf("%v is in a range that may not be", v)
		}
	}
	for _, r := range badRanges() {
		for _, g := range good {
			if semver.In(r, g.v) {
				t.Errorf("In(%v, %v) is true", r, g.v)
			}
		}
	}
	// It stands above Lo and below Hi, but these are of two Majors.
	if semver.In(rng(ver(1, 0, 0), ver(2, 0, 0)), ver(1, 5, 0)) {
		t.Error("a range of two Majors has a version")
	}
	// A Patch below nought stands above Lo and below Hi, but may not be.
	if semver.In(rng(ver(1, 0, 0), ver(1, 2, 0)), ver(1, 1, -1)) {
		t.Error("a version that may not be is in a range")
	}
}

// A next version is above, and by Patch there is none between.
func TestNextFollows(t *testing.T) {
	for _, g := range good {
		for _, step := range []int{api.Patch, api.Minor, api.Major} {
			n, err := semver.Next(g.v, step)
			if err == nil && (semver.Cmp(g.v, n) >= 0 || !semver.May(n)) {
				t.Errorf("Next(%v, %d) = %v isn't above", g.v, step, n)
			}
		}
		n, err := semver.Next(g.v, api.Patch)
		if err != nil {
			continue
		}
		for _, o := range good {
			if semver.Cmp(g.v, o.v) < 0 && semver.Cmp(o.v, n) < 0 {
				t.Errorf("%v is between %v and %v", o.v, g.v, n)
			}
		}
		if one := rng(g.v, n); !semver.MayRange(one) || !semver.In(one, g.v) || semver.In(one, n) {
			t.Errorf("the range from %v to %v isn't of one version", g.v, n)
		}
	}
}

// All versions of few numbers, as a whole: none between one and its next.
func TestNextFollowsAll(t *testing.T) {
	var all []api.Version
	for a := range 4 {
		for b := range 4 {
			for c := range 5 {
				all = append(all, ver(a+1, b, c))
			}
		}
	}
	for i, v := range all[:len(all)-1] {
		n, err := semver.Next(v, api.Patch)
		if err != nil {
			t.Fatal(v, err)
		}
		if v.Patch < 4 && n != all[i+1] {
			t.Errorf("Next(%v) = %v, not %v", v, n, all[i+1])
		}
	}
}

// Whatever it is given, each call answers, and what it tells fits together.
func TestAnyArguments(t *testing.T) {
	parts := []int{math.MinInt, math.MinInt + 1, -1, 0, 1, 2, most - 1, most, most + 1, math.MaxInt32, math.MaxInt - 1, math.MaxInt}
	var all []api.Version
	for _, a := range parts {
		for _, b := range parts {
			for _, c := range parts {
				all = append(all, ver(a, b, c))
			}
		}
	}
	for _, v := range all {
		s, err := semver.Print(v)
		if semver.May(v) != (err == nil) {
			t.Fatalf("May(%v) and Print's %v", v, err)
		}
		if back, err := semver.Parse(s); semver.May(v) && (err != nil || back != v) {
			t.Fatalf("Parse(Print(%v)) = %v, %v", v, back, err)
		}
		for step := -1; step <= 5; step++ {
			if n, err := semver.Next(v, step); err == nil && !semver.May(n) {
				t.Fatalf("Next(%v, %d) = %v", v, step, n)
			}
		}
	}
	for i := range all {
		lo, hi := all[i], all[i*7919%len(all)]
		r := rng(lo, hi)
		s, err := semver.PrintRange(r)
		if semver.MayRange(r) != (err == nil) || semver.In(r, lo) != semver.MayRange(r) || semver.In(r, hi) {
			t.Fatalf("%v: %v, %t", r, err, semver.In(r, lo))
		}
		if back, err := semver.ParseRange(s); semver.MayRange(r) && (err != nil || back != r) {
			t.Fatalf("ParseRange(PrintRange(%v)) = %v, %v", r, back, err)
		}
	}
}
