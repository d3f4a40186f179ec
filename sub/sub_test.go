package sub_test

import (
	"math/rand"
	"reflect"
	"slices"
	"strings"
	"testing"
	"unsafe"

	"merlon/api"
	"merlon/expr"
	"merlon/kind"
	"merlon/sample"
	"merlon/sub"
)

func typed(t *testing.T, s string) api.Type {
	t.Helper()
	o, err := expr.Parse(s)
	if err != nil {
		t.Fatalf("Parse(%.300q): %v", s, err)
	}
	return o
}

func textOf(o api.Type) string {
	s, err := kind.Print(o)
	if err != nil {
		return "one that may not be"
	}
	return s
}

func wantSub(t *testing.T, a, b api.Type, want bool) {
	t.Helper()
	if got := sub.Sub(a, b); got != want {
		t.Errorf("Sub(%.300s, %.300s) = %t", textOf(a), textOf(b), got)
	}
}

// Join and Meet, as they are called here.
type call struct {
	name string
	of   func(a, b api.Type) (api.Type, bool)
}

func calls() []call { return []call{{"Join", sub.Join}, {"Meet", sub.Meet}} }

// wantTold holds what a call tells of two, in both orders: none, if the text is empty.
func wantTold(t *testing.T, c call, a, b api.Type, text string) {
	t.Helper()
	for range 2 {
		got, has := c.of(a, b)
		switch {
		case text == "" && (has || !reflect.DeepEqual(got, api.Type{})):
			t.Errorf("%s(%.300s, %.300s) = %.300s, %t; want none", c.name, textOf(a), textOf(b), textOf(got), has)
		case text != "" && (!has || textOf(got) != text):
			t.Errorf("%s(%.300s, %.300s) = %.300s, %t; want %.300s", c.name, textOf(a), textOf(b), textOf(got), has, text)
		}
		a, b = b, a
	}
}

func wantJoins(t *testing.T, a, b api.Type, want bool) {
	t.Helper()
	if sub.Joins(a, b) != want || sub.Joins(b, a) != want {
		t.Errorf("Joins(%.300s, %.300s) = %t, the other way round %t; want %t", textOf(a), textOf(b), sub.Joins(a, b), sub.Joins(b, a), want)
	}
}

// wantBounds holds Join, Joins and Meet of two, where what there is may be, too.
func wantBounds(t *testing.T, a, b api.Type, join, meet string) {
	t.Helper()
	wantTold(t, calls()[0], a, b, join)
	wantTold(t, calls()[1], a, b, meet)
	wantJoins(t, a, b, join != "")
}

// wantLarge holds two that have a Join that may not be.
func wantLarge(t *testing.T, a, b api.Type) {
	t.Helper()
	wantTold(t, calls()[0], a, b, "")
	wantJoins(t, a, b, true)
}

// wantNothing holds two of which one isn't plain.
func wantNothing(t *testing.T, a, b api.Type) {
	t.Helper()
	wantSub(t, a, b, false)
	wantSub(t, b, a, false)
	wantBounds(t, a, b, "", "")
}

func TestExample(t *testing.T) {
	a, b := typed(t, "{a: Int, b: Text}"), typed(t, "{a: Int}")
	wantSub(t, a, b, true)
	wantSub(t, b, a, false)
}

// P9.1: two that stand one way alone, the first for the second.
func TestSub(t *testing.T) {
	for _, s := range [][2]string{
		{"{a: Int}", "{}"}, {"{a: Int, b: Text}", "{b: Text}"}, {"{a: Int, b: Text, c: Bool}", "{a: Int, c: Bool}"}, {"{a: {b: Int}}", "{a: {}}"}, {"{a: {b: Int}, c: Int}", "{a: {}}"},
		{"[A: Int]", "[A: Int, B: Int]"}, {"[B: Int]", "[A: Int, B: Int]"}, {"[A: Int, C: Bool]", "[A: Int, B: Text, C: Bool]"}, {"[A: {b: Int}]", "[A: {}]"}, {"[A: {b: Int}]", "[A: {}, B: Int]"},
		{"List({a: Int})", "List({})"}, {"List([A: Int])", "List([A: Int, B: Int])"}, {"List(List({a: Int}))", "List(List({}))"},
		{"() -> {a: Int}", "() -> {}"}, {"({}) -> Int", "({a: Int}) -> Int"}, {"({}) -> {a: Int}", "({a: Int}) -> {}"}, {"([A: Int, B: Int]) -> Int", "([A: Int]) -> Int"},
		{"(Int, {}, Bool) -> Text", "(Int, {a: Int}, Bool) -> Text"}, {"({}, {}) -> Int", "({a: Int}, {b: Int}) -> Int"},
		{"(({a: Int}) -> Int) -> Int", "(({}) -> Int) -> Int"}, {"((({}) -> Int) -> Int) -> Int", "((({a: Int}) -> Int) -> Int) -> Int"}, {"(() -> {}) -> Int", "(() -> {a: Int}) -> Int"},
		{"() -> ({}) -> Int", "() -> ({a: Int}) -> Int"}, {"{f: ({}) -> [A: Int], g: Int}", "{f: ({a: <p 1 m T>}) -> [A: Int, B: Int]}"}, {"[F: List(({}) -> Int)]", "[F: List(({a: Int}) -> Int)]"},
	} {
		a, b := typed(t, s[0]), typed(t, s[1])
		wantSub(t, a, a, true)
		wantSub(t, b, b, true)
		wantSub(t, a, b, true)
		wantSub(t, b, a, false)
		wantBounds(t, a, b, textOf(b), textOf(a))
	}
}

// P9.1: two of which none may stand for the other.
func TestUnrelated(t *testing.T) {
	for _, s := range [][2]string{
		{"{a: Int}", "{b: Int}"}, {"{a: Int}", "{a: Text}"}, {"{a: Int, b: Int}", "{a: Text}"}, {"{a: Int, b: {}, d: Int}", "{a: Int, b: {a: Int}, c: Int}"}, {"{a: {b: Int}}", "{b: {a: Int}}"},
		{"[A: Int]", "[B: Int]"}, {"[A: Int]", "[A: Text]"}, {"[A: Int]", "[A: Text, B: Int]"}, {"[A: {}]", "[A: {a: Int}, B: Int]"},
		{"List(Int)", "List(Text)"}, {"List({a: Int})", "List({b: Int})"}, {"List(Int)", "List(List(Int))"},
		{"() -> Int", "() -> Text"}, {"() -> Int", "(Int) -> Int"}, {"(Int) -> Int", "(Int, Int) -> Int"}, {"(Int) -> Text", "(Text) -> Int"}, {"() -> (Int) -> Int", "(Int) -> () -> Int"}, {"(Int) -> Int", "(Text) -> Int"},
		{"({}) -> {}", "({a: Int}) -> {a: Int}"}, {"({a: Int}, {}) -> Int", "({}, {a: Int}) -> Int"},
		{"<p 1 m T>", "<q 1 m T>"}, {"<p 1 m T>", "<p 2 m T>"}, {"<p 1 m T>", "<p 1 n T>"}, {"<p 1 m T>", "<p 1 m U>"}, {"<p 1 m T>", "<m 1 p T>"},
	} {
		wantSub(t, typed(t, s[0]), typed(t, s[1]), false)
		wantSub(t, typed(t, s[1]), typed(t, s[0]), false)
	}
}

// Of two of another Kind there is nothing, at any place; of two of one Kind they are what they are.
func TestKinds(t *testing.T) {
	all := []string{"Int", "Text", "Bool", "List(Int)", "{}", "{a: Int}", "[A: Int]", "() -> Int", "(Int) -> Int", "<p 1 m T>"}
	for i, s := range all {
		for j, o := range all {
			a, b := typed(t, s), typed(t, o)
			if i == j {
				wantSub(t, a, b, true)
				wantBounds(t, a, b, s, s)
			}
			if a.Kind == b.Kind {
				continue
			}
			wantNothing(t, a, b)
			wantNothing(t, sample.List(a), sample.List(b))
			wantNothing(t, sample.Func(a), sample.Func(b))
			wantNothing(t, sample.Func(a, sample.Int()), sample.Func(b, sample.Int()))
			wantSub(t, sample.Record("a", a), sample.Record("a", b), false)
			wantBounds(t, sample.Record("a", a), sample.Record("a", b), "{}", "")
			wantSub(t, sample.Variant("A", a), sample.Variant("A", b), false)
			wantBounds(t, sample.Variant("A", a), sample.Variant("A", b), "", "")
		}
	}
	// Nil lists and empty ones are alike.
	empty := api.Type{Kind: api.Record, Names: []string{}, Subs: []api.Type{}}
	wantSub(t, empty, sample.Record(""), true)
	wantSub(t, api.Type{Kind: api.Record}, empty, true)
	wantBounds(t, empty, api.Type{Kind: api.Record}, "{}", "{}")
	wantBounds(t, api.Type{Kind: api.Int, Names: []string{}, Subs: []api.Type{}}, sample.Int(), "Int", "Int")
}

// P9.2: what there is of two that stand for none of one another.
func TestBounds(t *testing.T) {
	for _, s := range [][4]string{
		// Records.
		{"{a: Int, b: Text}", "{b: Text, c: Bool}", "{b: Text}", "{a: Int, b: Text, c: Bool}"},
		{"{a: Int}", "{b: Int}", "{}", "{a: Int, b: Int}"},
		{"{a: Int, b: Text}", "{a: Text, b: Text}", "{b: Text}", ""},
		{"{a: Int}", "{a: Text}", "{}", ""},
		{"{b: Int, d: Int}", "{a: Int, c: Int, e: Int}", "{}", "{a: Int, b: Int, c: Int, d: Int, e: Int}"},
		{"{a: {x: Int}}", "{a: {y: Int}, b: Int}", "{a: {}}", "{a: {x: Int, y: Int}, b: Int}"},
		{"{a: {x: Int}}", "{a: {x: Text}}", "{a: {}}", ""},
		{"{a: [A: Int], b: Int}", "{a: [A: Text], b: Int}", "{b: Int}", ""},
		{"{a: [A: Int], b: Int}", "{a: [B: Text], b: Int}", "{a: [A: Int, B: Text], b: Int}", ""},
		// Variants.
		{"[A: Int, B: Text]", "[B: Text, C: Bool]", "[A: Int, B: Text, C: Bool]", "[B: Text]"},
		{"[A: Int]", "[B: Int]", "[A: Int, B: Int]", ""},
		{"[A: Int, B: Text]", "[A: Text, B: Text]", "", "[B: Text]"},
		{"[A: Int]", "[A: Text]", "", ""},
		{"[A: {x: Int}]", "[A: {y: Int}, B: Int]", "[A: {}, B: Int]", "[A: {x: Int, y: Int}]"},
		{"[A: {x: Int}, B: Int]", "[A: {x: Text}, C: Int]", "[A: {}, B: Int, C: Int]", ""},
		{"[A: {x: Int}, B: Int]", "[A: {x: Text}, B: Int]", "[A: {}, B: Int]", "[B: Int]"},
		// Lists.
		{"List({a: Int})", "List({b: Int})", "List({})", "List({a: Int, b: Int})"},
		{"List(Int)", "List(Text)", "", ""},
		{"List({a: Int})", "List({a: Text})", "List({})", ""},
		{"List([A: Int])", "List([B: Int])", "List([A: Int, B: Int])", ""},
		// Funcs.
		{"() -> {a: Int}", "() -> {b: Int}", "() -> {}", "() -> {a: Int, b: Int}"},
		{"({a: Int}) -> Int", "({b: Int}) -> Int", "({a: Int, b: Int}) -> Int", "({}) -> Int"},
		{"({a: Int}) -> Int", "({a: Text}) -> Int", "", "({}) -> Int"},
		{"([A: Int]) -> Int", "([B: Int]) -> Int", "", "([A: Int, B: Int]) -> Int"},
		{"([A: Int]) -> Int", "([A: Text]) -> Int", "", ""},
		{"({a: Int}) -> [A: Int]", "({b: Int}) -> [B: Int]", "({a: Int, b: Int}) -> [A: Int, B: Int]", ""},
		{"(Int) -> Int", "(Text) -> Int", "", ""},
		{"(Int) -> Int", "(Int) -> Text", "", ""},
		{"() -> Int", "(Int) -> Int", "", ""},
		{"(Int, Int) -> Int", "(Int) -> Int", "", ""},
		{"(Int, {a: Int}, {}) -> Int", "(Int, {b: Int}, {c: Int}) -> Int", "(Int, {a: Int, b: Int}, {c: Int}) -> Int", "(Int, {}, {}) -> Int"},
		{"(({a: Int}) -> Int) -> Int", "(({b: Int}) -> Int) -> Int", "(({}) -> Int) -> Int", "(({a: Int, b: Int}) -> Int) -> Int"},
		{"(({a: Int}) -> Int) -> Int", "(({a: Text}) -> Int) -> Int", "(({}) -> Int) -> Int", ""},
		// What has none is left out, or leaves none, as the Record or Variant around it says.
		{"{f: (Int) -> Int, g: Int}", "{f: () -> Int, g: Int}", "{g: Int}", ""},
		{"{f: ([A: Int]) -> Int}", "{f: ([B: Int]) -> Int}", "{}", "{f: ([A: Int, B: Int]) -> Int}"},
		{"[F: ({a: Int}) -> Int, G: Int]", "[F: ({a: Text}) -> Int, G: Int]", "", "[F: ({}) -> Int, G: Int]"},
		{"[F: ([A: Int]) -> Int, G: Int]", "[F: ([A: Text]) -> Int, G: Int]", "", "[G: Int]"},
		{"{a: List(Int), b: <p 1 m T>}", "{a: List(Text), b: <p 1 m U>}", "{}", ""},
		{"{a: {b: {c: Int, d: Int}}}", "{a: {b: {c: Text, d: Int}}}", "{a: {b: {d: Int}}}", ""},
		{"List({a: Int, b: [A: Int]})", "List({a: Int, b: [A: Text]})", "List({a: Int})", ""},
		{"<p 1 m T>", "<p 1 m U>", "", ""},
		{"<p 1 m T>", "<p 2 m T>", "", ""},
		{"<p 1 m T>", "<q 1 m T>", "", ""},
		{"<p 1 m T>", "<p 1 n T>", "", ""},
	} {
		wantBounds(t, typed(t, s[0]), typed(t, s[1]), s[2], s[3])
	}
}

// wide is a Record, a Variant or a Func of so many Subs, its names from that number on.
func wide(k, from, n int, s api.Type) api.Type {
	o := api.Type{Kind: k, Subs: slices.Repeat([]api.Type{s}, n)}
	for i := from; i < from+n; i++ {
		name := string([]byte{'x', 'a' + byte(i/26), 'a' + byte(i%26)})
		switch k {
		case api.Record:
			o.Names = append(o.Names, name)
		case api.Variant:
			o.Names = append(o.Names, strings.ToUpper(name))
		}
	}
	return o
}

// Each place counts, of however many there are.
func TestEachPlace(t *testing.T) {
	less, more := sample.Record(""), sample.Record("a", sample.Int())
	other, none := sample.Record("b", sample.Int()), sample.Text()
	for _, k := range []int{api.Record, api.Variant, api.Func} {
		for n := 1; n <= api.MaxSubs; n++ {
			for i := range n {
				at := func(s api.Type) api.Type {
					o := wide(k, 0, n, less)
					o.Subs[i] = s
					return o
				}
				param := k == api.Func && i < n-1
				wantSub(t, at(more), at(less), !param)
				wantSub(t, at(less), at(more), param)
				wantSub(t, at(more), at(other), false)
				wantSub(t, at(none), at(less), false)
				wantSub(t, at(less), at(none), false)
				up, down := textOf(at(less)), textOf(at(sample.Record("a b", sample.Int(), sample.Int())))
				if param {
					up, down = down, up
				}
				wantBounds(t, at(more), at(other), up, down)
				part := at(none)
				part.Subs = slices.Delete(part.Subs, i, i+1)
				if k == api.Func {
					wantBounds(t, at(none), at(less), "", "")
					continue
				}
				part.Names = slices.Delete(part.Names, i, i+1)
				if k == api.Record {
					wantBounds(t, at(none), at(less), textOf(part), "")
				} else if n > 1 {
					wantBounds(t, at(none), at(less), "", textOf(part))
				} else {
					wantBounds(t, at(none), at(less), "", "")
				}
			}
		}
	}
}

// nested is a type of n levels around another one.
func nested(n int, o api.Type) api.Type {
	for range n {
		o = sample.List(o)
	}
	return o
}

// sized is a type of so many types.
func sized(n int) api.Type {
	if n == 1 {
		return sample.Int()
	}
	if n > 20 {
		return sample.Func(append(slices.Repeat([]api.Type{sample.Int()}, 18), sized(n-19))...)
	}
	return sample.Func(slices.Repeat([]api.Type{sample.Int()}, n-1)...)
}

// P9.2, P9.3: more than MaxSubs names, in the whole or in a part.
func TestManyNames(t *testing.T) {
	i := sample.Int()
	for from := 0; from <= 20; from++ {
		for n := 0; n <= 20; n++ {
			all := max(20, from+n)
			a, b := wide(api.Record, 0, 20, i), wide(api.Record, from, n, i)
			common := textOf(wide(api.Record, from, min(n, 20-from), i))
			if all <= 20 {
				wantBounds(t, a, b, common, textOf(wide(api.Record, 0, all, i)))
			} else {
				wantBounds(t, a, b, common, "")
				wantLarge(t, sample.Func(a, i), sample.Func(b, i))
			}
			if n == 0 {
				continue
			}
			c, d, meet := wide(api.Variant, 0, 20, i), wide(api.Variant, from, n, i), ""
			if from < 20 {
				meet = textOf(wide(api.Variant, from, min(n, 20-from), i))
			}
			wantTold(t, calls()[1], c, d, meet)
			if all <= 20 {
				wantBounds(t, c, d, textOf(wide(api.Variant, 0, all, i)), meet)
			} else {
				wantLarge(t, c, d)
			}
		}
	}
	wantBounds(t, wide(api.Variant, 0, 10, i), wide(api.Variant, 10, 10, i), textOf(wide(api.Variant, 0, 20, i)), "")
	wantLarge(t, wide(api.Variant, 0, 10, i), wide(api.Variant, 10, 11, i))
}

// What may be is asked of the whole alone: a part that is too great isn't left out, and leaves no other type.
func TestLargePart(t *testing.T) {
	i := sample.Int()
	a, b := wide(api.Variant, 0, 20, i), wide(api.Variant, 1, 20, i)
	r, s := wide(api.Record, 0, 20, i), wide(api.Record, 1, 20, i)
	wantLarge(t, a, b)
	wantLarge(t, sample.List(a), sample.List(b))
	wantLarge(t, sample.Record("a", a), sample.Record("a", b))
	wantLarge(t, sample.Record("a b", a, i), sample.Record("a b", b, i))
	wantLarge(t, sample.Record("a b", i, sample.List(a)), sample.Record("a b", i, sample.List(b)))
	wantLarge(t, sample.Variant("A B", a, i), sample.Variant("A C", b, i))
	wantLarge(t, sample.Func(a), sample.Func(b))
	wantLarge(t, sample.Func(sample.Func(a, i), i), sample.Func(sample.Func(b, i), i))
	wantLarge(t, sample.Record("f g", sample.Func(r, i), i), sample.Record("f g", sample.Func(s, i), i))
	for _, two := range [][2]api.Type{
		{r, s}, {sample.List(r), sample.List(s)}, {sample.Variant("A B", r, i), sample.Variant("A B", s, i)}, {sample.Variant("A", r), sample.Variant("A", s)}, {sample.Func(a, i), sample.Func(b, i)},
		{sample.Variant("A B", sample.Func(a, i), i), sample.Variant("A B", sample.Func(b, i), i)},
	} {
		wantTold(t, calls()[1], two[0], two[1], "")
	}
	wantBounds(t, sample.Variant("A B", r, i), sample.Variant("A B", s, i), textOf(sample.Variant("A B", wide(api.Record, 1, 19, i), i)), "")
	// Where a part has none, its size is nothing.
	wantBounds(t, sample.Record("a b", sample.Func(r, i), i), sample.Record("a b", sample.Func(s, sample.Text()), i), "{b: Int}", "")
	wantBounds(t, sample.Variant("A B", sample.Func(a, i), i), sample.Variant("A C", sample.Func(b, sample.Text()), i), "", "")
	wantBounds(t, sample.Variant("A B", sample.Func(a, i), i), sample.Variant("A B", sample.Func(b, sample.Text()), i), "", "[B: Int]")
	wantJoins(t, sample.Variant("A B", a, i), sample.Variant("A B", b, sample.Text()), false)
	wantJoins(t, sample.Func(r, i), sample.Func(s, sample.Text()), false)
}

// P9.2, P9.3: more than MaxNodes types, all in all.
func TestManyTypes(t *testing.T) {
	for _, n := range []int{1, 2, 30, 250, 498} {
		for _, all := range []int{499, 500, 501, 502, 600} {
			left := all - 1 - n
			if left < 1 || left > 499 {
				continue
			}
			a, b := sample.Record("a", sized(n)), sample.Record("b", sized(left))
			c, d := sample.Variant("A", sized(n)), sample.Variant("B", sized(left))
			if all <= 500 {
				wantBounds(t, a, b, "{}", "{a: "+textOf(sized(n))+", b: "+textOf(sized(left))+"}")
				wantBounds(t, c, d, "[A: "+textOf(sized(n))+", B: "+textOf(sized(left))+"]", "")
			} else {
				wantBounds(t, a, b, "{}", "")
				wantLarge(t, c, d)
			}
		}
	}
	// Two that are alike have no more types than one of them.
	for _, o := range []api.Type{sized(500), sized(499), sample.Record("a", sized(499)), sample.Variant("A", sized(499)), nested(31, sample.Int()), nested(31, sample.Record("")), nested(5, sized(495))} {
		wantSub(t, o, o, true)
		wantBounds(t, o, o, textOf(o), textOf(o))
	}
	// As deep as may be, one way and the other way round.
	for _, wrap := range []func(api.Type) api.Type{
		sample.List, func(o api.Type) api.Type { return sample.Func(o, sample.Int()) }, func(o api.Type) api.Type { return sample.Func(o) },
		func(o api.Type) api.Type { return sample.Record("a", o) }, func(o api.Type) api.Type { return sample.Variant("A", o) },
	} {
		a, b, both, none := sample.Record("a", sample.Int()), sample.Record("b", sample.Int()), sample.Record("a b", sample.Int(), sample.Int()), sample.Record("")
		for depth := 2; depth < api.MaxDepth; depth++ {
			a, b, both, none = wrap(a), wrap(b), wrap(both), wrap(none)
			if a.Kind == api.Func && len(a.Subs) == 2 {
				both, none = none, both
			}
			wantSub(t, both, a, true)
			wantSub(t, a, none, true)
			wantSub(t, a, b, false)
			wantBounds(t, a, b, textOf(none), textOf(both))
		}
		wantNothing(t, wrap(a), wrap(a))
	}
}

// badTypes are some that aren't plain.
func badTypes() []api.Type {
	i := sample.Int()
	in := []api.Type{{Kind: api.List}}
	in[0].Subs = in
	wideIn := api.Type{Kind: api.Func, Subs: make([]api.Type, 20)}
	for n := range wideIn.Subs {
		wideIn.Subs[n] = wideIn
	}
	recordIn := api.Type{Kind: api.Record, Names: []string{"a", "b"}, Subs: make([]api.Type, 2)}
	recordIn.Subs[0], recordIn.Subs[1] = recordIn, recordIn
	shared := i
	for range 60 {
		shared = sample.Func(shared, shared)
	}
	l := []api.Type{
		{}, {Kind: -1}, {Kind: 10}, sample.Local("", "T"), sample.Local("m", "T"), sample.Local("", "t"), {Kind: api.Int, Name: "T"}, {Kind: api.Text, Subs: []api.Type{i}}, {Kind: api.Bool, Major: 1},
		{Kind: api.List}, {Kind: api.List, Subs: []api.Type{i, i}}, {Kind: api.Variant}, {Kind: api.Func}, sample.Record("b a", i, i), sample.Record("a a", i, i), sample.Record("a", i, i), sample.Record("a b", i), sample.Record("A", i), sample.Variant("a", i),
		{Kind: api.Record, Names: []string{"a"}}, {Kind: api.Variant, Names: []string{"A"}}, {Kind: api.Record, Subs: []api.Type{i}},
		sample.Open("p", 0, "m", "T"), sample.Open("P", 1, "m", "T"), sample.Open("p", 1, "", "T"), sample.Open("p", 1, "m", "t"), sample.Open("p", 1_000_000_000, "m", "T"),
		wide(api.Record, 0, 21, i), wide(api.Variant, 0, 21, i), wide(api.Func, 0, 21, i), sized(501), nested(32, i), shared, in[0], wideIn, recordIn,
	}
	for _, o := range []api.Type{sample.Local("", "T"), {}, sample.Record("b a", i, i)} {
		l = append(l, sample.List(o), sample.Func(o), sample.Func(o, i), sample.Func(i, o), sample.Record("a b", i, o), sample.Variant("A B", o, i), sample.Record("a", sample.List(sample.Func(i, sample.Variant("A", o)))))
	}
	return l
}

// Both must be plain, wherever in them it isn't so.
func TestNotPlain(t *testing.T) {
	plain := []api.Type{sample.Int(), sample.Record(""), sample.Record("a", sample.Int()), sample.Variant("A", sample.Int()), sample.List(sample.Int()), sample.Func(sample.Int()), sample.Open("p", 1, "m", "T")}
	bad := badTypes()
	for _, o := range bad {
		wantNothing(t, o, o)
		for _, p := range append(slices.Clone(plain), bad...) {
			wantNothing(t, o, p)
		}
		// At a place that the other one hasn't, or in which no name is asked for.
		wantNothing(t, sample.Record("a b", sample.Int(), o), sample.Record("a", sample.Int()))
		wantNothing(t, sample.Record("a", o), sample.Record(""))
		wantNothing(t, sample.Record("a", o), sample.Record("b", o))
		wantNothing(t, sample.Variant("A B", sample.Int(), o), sample.Variant("A", sample.Int()))
		wantNothing(t, sample.Func(o), sample.Func(o, sample.Int()))
		wantNothing(t, sample.List(o), sample.Record("a", o))
	}
}

// A second reading of the chapter, over all types of a few levels: which type is one step above another one, and what steps lead to.

// alphabet is what a universe's types are made of.
type alphabet struct {
	leaves         []api.Type
	smalls, greats []string
	params         int
}

// universe is all types of at most so many levels.
func (x alphabet) universe(levels int) []api.Type {
	if levels == 0 {
		return nil
	}
	below := x.universe(levels - 1)
	all := slices.Clone(x.leaves)
	all = append(all, named(api.Record, x.smalls, below)...)
	all = append(all, named(api.Variant, x.greats, below)[1:]...)
	for _, s := range below {
		all = append(all, sample.List(s))
	}
	funcs := [][]api.Type{nil}
	for n := 0; n <= x.params; n++ {
		var more [][]api.Type
		for _, l := range funcs {
			for _, s := range below {
				more = append(more, append(slices.Clone(l), s))
			}
		}
		for _, l := range more {
			all = append(all, sample.Func(l...))
		}
		funcs = more
	}
	return all
}

// named are all Records, or Variants, of some of the names: the first one has none.
func named(k int, names []string, below []api.Type) []api.Type {
	all := []api.Type{{Kind: k}}
	for _, name := range names {
		for _, o := range all {
			for _, s := range below {
				all = append(all, api.Type{Kind: k, Names: append(slices.Clone(o.Names), name), Subs: append(slices.Clone(o.Subs), s)})
			}
		}
	}
	return all
}

// steps are the types that are one step above a type, or below it, of at most so many levels.
func (x alphabet) steps(o api.Type, levels int, up bool) []api.Type {
	var all []api.Type
	for i, s := range o.Subs {
		way := up
		if o.Kind == api.Func && i < len(o.Subs)-1 {
			way = !up
		}
		for _, to := range x.steps(s, levels-1, way) {
			next := sample.CloneType(o)
			next.Subs[i] = to
			all = append(all, next)
		}
	}
	names := map[int][]string{api.Record: x.smalls, api.Variant: x.greats}[o.Kind]
	if (o.Kind == api.Record) == up {
		return append(all, dropped(o)...)
	}
	for _, name := range names {
		at, has := slices.BinarySearch(o.Names, name)
		if has {
			continue
		}
		for _, s := range x.universe(levels - 1) {
			next := sample.CloneType(o)
			next.Names = slices.Insert(next.Names, at, name)
			next.Subs = slices.Insert(next.Subs, at, s)
			all = append(all, next)
		}
	}
	return all
}

// dropped are a Record, or a Variant, without one of its names.
func dropped(o api.Type) []api.Type {
	var all []api.Type
	for i := range o.Names {
		next := sample.CloneType(o)
		next.Names = slices.Delete(next.Names, i, i+1)
		next.Subs = slices.Delete(next.Subs, i, i+1)
		if o.Kind == api.Record || len(next.Names) > 0 {
			all = append(all, next)
		}
	}
	return all
}

// order is a universe, and which of it are above which.
type order struct {
	all   []api.Type
	texts []string
	at    map[string]int
	above [][]bool
}

func (x alphabet) order(levels int) order {
	o := order{all: x.universe(levels), at: map[string]int{}}
	for i, a := range o.all {
		o.texts = append(o.texts, textOf(a))
		o.at[textOf(a)] = i
	}
	next := make([][]int, len(o.all))
	for i, a := range o.all {
		for _, b := range x.steps(a, levels, true) {
			next[i] = append(next[i], o.at[textOf(b)])
		}
	}
	for i := range o.all {
		o.above = append(o.above, reached(next, i))
	}
	return o
}

func reached(next [][]int, from int) []bool {
	seen := make([]bool, len(next))
	seen[from] = true
	for l := []int{from}; len(l) > 0; l = l[1:] {
		for _, to := range next[l[0]] {
			if !seen[to] {
				seen[to] = true
				l = append(l, to)
			}
		}
	}
	return seen
}

// bound is the one of those that is above two, or below two, which all others are above, or below; -1, if there is none.
func (o order) bound(a, b int, is func(low, high int) bool) int {
	best := -1
	for c := range o.all {
		if is(a, c) && is(b, c) && (best < 0 || is(c, best)) {
			best = c
		}
	}
	for c := range o.all {
		if best >= 0 && is(a, c) && is(b, c) && !is(best, c) {
			return -2
		}
	}
	return best
}

func (o order) text(i int) string {
	if i < 0 {
		return ""
	}
	return o.texts[i]
}

func orders() map[string]order {
	i, s := sample.Int(), sample.Text()
	wide := alphabet{[]api.Type{i, s, sample.Open("p", 1, "m", "T")}, []string{"a", "b"}, []string{"A", "B"}, 2}
	three := alphabet{[]api.Type{i, s}, []string{"a", "b", "c"}, []string{"A", "B", "C"}, 0}
	deep := alphabet{[]api.Type{i, s}, []string{"a"}, []string{"A"}, 1}
	return map[string]order{"wide": wide.order(2), "three": three.order(2), "deep": deep.order(3)}
}

// P9.1, P9.2, P9.3, P9.5: all of a universe against the second reading.
func TestUniverses(t *testing.T) {
	for name, o := range orders() {
		if len(o.at) != len(o.all) || len(o.all) < 100 {
			t.Fatalf("%s: %d types, %d texts", name, len(o.all), len(o.at))
		}
		up := func(a, c int) bool { return o.above[a][c] }
		down := func(a, c int) bool { return o.above[c][a] }
		found := [3]int{}
		for a := range o.all {
			for b := range o.all {
				wantSub(t, o.all[a], o.all[b], o.above[a][b])
				if a != b && sub.Sub(o.all[a], o.all[b]) && sub.Sub(o.all[b], o.all[a]) {
					t.Errorf("%s and %s stand for one another", o.texts[a], o.texts[b])
				}
				if b < a {
					continue
				}
				join, meet := o.bound(a, b, up), o.bound(a, b, down)
				if join == -2 || meet == -2 {
					t.Fatalf("%s, %s: several bounds, none of them the nearest", o.texts[a], o.texts[b])
				}
				wantBounds(t, o.all[a], o.all[b], o.text(join), o.text(meet))
				if a != b && join >= 0 {
					found[0]++
				}
				if a != b && meet >= 0 {
					found[1]++
				}
				if join < 0 && meet < 0 {
					found[2]++
				}
			}
		}
		if min(found[0], found[1], found[2]) < 50 {
			t.Errorf("%s: %v Joins, Meets and pairs without any", name, found)
		}
	}
}

// anyType is a plain type of few names, the same ones at each run.
func anyType(r *rand.Rand, levels int) api.Type {
	if levels == 1 || r.Intn(5) == 0 {
		return []api.Type{sample.Int(), sample.Text(), sample.Bool(), sample.Record(""), sample.Open("p", 1, "m", "T"), sample.Open("p", 2, "m", "T")}[r.Intn(6)]
	}
	k := []int{api.List, api.Record, api.Record, api.Variant, api.Variant, api.Func}[r.Intn(6)]
	o := api.Type{Kind: k}
	for i := range 1 + r.Intn(4) {
		if k == api.List && i > 0 {
			break
		}
		o.Subs = append(o.Subs, anyType(r, levels-1))
		if k == api.Record {
			o.Names = append(o.Names, string(rune('b'+2*i)))
		}
		if k == api.Variant {
			o.Names = append(o.Names, string(rune('B'+2*i)))
		}
	}
	return o
}

// moved is a type somewhere above another one, or below it.
func moved(r *rand.Rand, o api.Type, up bool) api.Type {
	o = sample.CloneType(o)
	for i, s := range o.Subs {
		way := up
		if o.Kind == api.Func && i < len(o.Subs)-1 {
			way = !up
		}
		o.Subs[i] = moved(r, s, way)
	}
	if o.Kind != api.Record && o.Kind != api.Variant {
		return o
	}
	if (o.Kind == api.Record) != up {
		return added(r, o)
	}
	for i := len(o.Names) - 1; i >= 0; i-- {
		if r.Intn(3) == 0 && (o.Kind == api.Record || len(o.Names) > 1) {
			o.Names, o.Subs = slices.Delete(o.Names, i, i+1), slices.Delete(o.Subs, i, i+1)
		}
	}
	return o
}

func added(r *rand.Rand, o api.Type) api.Type {
	first := byte('a')
	if o.Kind == api.Variant {
		first = 'A'
	}
	for range r.Intn(3) {
		name := string([]byte{first + byte(r.Intn(10))})
		at, has := slices.BinarySearch(o.Names, name)
		if !has {
			o.Names, o.Subs = slices.Insert(o.Names, at, name), slices.Insert(o.Subs, at, anyType(r, 1+r.Intn(2)))
		}
	}
	return o
}

// P9.5, and P9.2 where there is a type above both, or below both.
func TestMany(t *testing.T) {
	r := rand.New(rand.NewSource(9))
	found := 0
	for range 10000 {
		b := anyType(r, 1+r.Intn(5))
		low, high := moved(r, b, false), moved(r, b, true)
		a, c := moved(r, low, true), moved(r, high, false)
		if !kind.May(low) || !kind.May(high) || !kind.May(a) || !kind.May(c) {
			continue
		}
		for _, two := range [][2]api.Type{{b, b}, {low, b}, {b, high}, {low, high}, {low, a}, {c, high}} {
			wantSub(t, two[0], two[1], true)
			wantBounds(t, two[0], two[1], textOf(two[1]), textOf(two[0]))
			if sub.Sub(two[1], two[0]) != kind.Same(two[0], two[1]) {
				t.Errorf("%s and %s stand for one another", textOf(two[0]), textOf(two[1]))
			}
		}
		wantBetween(t, low, a, b)
		wantBetween(t, b, c, high)
		if !sub.Sub(a, b) && !sub.Sub(b, a) && !sub.Sub(c, b) && !sub.Sub(b, c) {
			found++
		}
	}
	if found < 500 {
		t.Errorf("%d unrelated pairs", found)
	}
}

// wantBetween holds three types, of which the first may stand for the second, or this one for the third.
func wantBetween(t *testing.T, a, b, c api.Type) {
	t.Helper()
	if sub.Sub(a, b) && sub.Sub(a, c) {
		meet, has := sub.Meet(b, c)
		if !has || !sub.Sub(a, meet) || !sub.Sub(meet, b) || !sub.Sub(meet, c) {
			t.Errorf("Meet(%s, %s) = %s, %t, but %s may stand for both", textOf(b), textOf(c), textOf(meet), has, textOf(a))
		}
	}
	if sub.Sub(a, c) && sub.Sub(b, c) {
		join, has := sub.Join(a, b)
		if !has || !sub.Joins(a, b) || !sub.Sub(join, c) || !sub.Sub(a, join) || !sub.Sub(b, join) {
			t.Errorf("Join(%s, %s) = %s, %t, but both may stand for %s", textOf(a), textOf(b), textOf(join), has, textOf(c))
		}
	}
}

// pairs are some of which there is all, or nothing, with names and texts of their own.
func pairs(t *testing.T) [][2]api.Type {
	t.Helper()
	var all [][2]api.Type
	for _, s := range [][2]string{
		{"{aa: Int, bb: {cc: List(<pp 1 mm Tt>)}, dd: () -> {ee: Int}}", "{aa: Int, bb: {cc: List(<pp 1 mm Tt>), ff: Text}, gg: [Hh: Int]}"},
		{"[Aa: Int, Bb: {cc: List(<pp 1 mm Tt>)}, Dd: {}]", "[Aa: Int, Bb: {cc: List(<pp 1 mm Tt>), ff: Text}, Gg: [Hh: Int]]"},
		{"({aa: <pp 1 mm Tt>}, [Aa: Int]) -> {bb: {cc: Int}}", "({bb: List(Int)}, [Bb: Int]) -> {bb: {dd: Int}}"},
		{"List({aa: <pp 1 mm Tt>})", "List({aa: <pp 1 mm Tt>, bb: {}})"}, {"<pp 1 mm Tt>", "<pp 1 mm Tt>"}, {"Int", "Int"}, {"{aa: Int}", "{aa: Text}"}, {"[Aa: Int]", "[Aa: Text]"}, {"List(Int)", "() -> Int"},
	} {
		all = append(all, [2]api.Type{typed(t, s[0]), typed(t, s[1])})
	}
	return append(all, [2]api.Type{sample.Record("aa", sample.Local("mm", "Tt")), sample.Record("aa", sample.Int())})
}

// behind is a type at whose lists, in their memory, something stands behind.
func behind(o api.Type) api.Type {
	names, subs := append(slices.Clone(o.Names), "behind"), append(slices.Clone(o.Subs), sample.Local("", "Behind"))
	o.Names, o.Subs = names[:len(names)-1], subs[:len(subs)-1]
	for i, s := range o.Subs {
		o.Subs[i] = behind(s)
	}
	return o
}

func stillBehind(o api.Type) bool {
	ok := o.Names[:len(o.Names)+1][len(o.Names)] == "behind" && o.Subs[:len(o.Subs)+1][len(o.Subs)].Name == "Behind"
	for _, s := range o.Subs {
		ok = ok && stillBehind(s)
	}
	return ok
}

// P9.4: what is handed in stays as it is, what lies behind it in its memory too.
func TestStays(t *testing.T) {
	for _, two := range pairs(t) {
		a, b := behind(two[0]), behind(two[1])
		for range 2 {
			wasA, wasB := sample.CloneType(a), sample.CloneType(b)
			sub.Sub(a, b)
			sub.Joins(a, b)
			sub.Join(a, b)
			sub.Meet(a, b)
			if !reflect.DeepEqual(a, wasA) || !reflect.DeepEqual(b, wasB) || !stillBehind(a) || !stillBehind(b) {
				t.Errorf("%s, %s: what was handed in was changed", textOf(wasA), textOf(wasB))
			}
			a, b = b, a
		}
	}
}

// memory is where each text, of one byte at least, and each list of a type lies.
func memory(o api.Type) []uintptr {
	var l []uintptr
	for _, s := range append(slices.Clone(o.Names), o.Pkg, o.Mod, o.Name) {
		if s != "" {
			l = append(l, uintptr(unsafe.Pointer(unsafe.StringData(s))))
		}
	}
	if len(o.Names) > 0 {
		l = append(l, uintptr(unsafe.Pointer(&o.Names[0])))
	}
	if len(o.Subs) > 0 {
		l = append(l, uintptr(unsafe.Pointer(&o.Subs[0])))
	}
	for _, s := range o.Subs {
		l = append(l, memory(s)...)
	}
	return l
}

// P9.4: an answer's lists and texts are no others', nor one another's.
func TestNewMemory(t *testing.T) {
	all := pairs(t)
	// Lists that are shared in what is handed in are so in no answer.
	shared := typed(t, "{aa: List(<pp 1 mm Tt>), bb: [Aa: Int]}")
	more := sample.Record("aa bb cc", shared.Subs[0], shared.Subs[1], shared)
	all = append(all, [2]api.Type{shared, shared}, [2]api.Type{sample.Record("aa bb cc", shared, shared, shared), sample.Record("bb dd ee", shared, shared, more)},
		[2]api.Type{sample.Variant("Aa Bb Cc", shared, shared, shared), sample.Variant("Bb Dd Ee", more, shared, shared)}, [2]api.Type{sample.Func(shared, more, shared), sample.Func(more, shared, more)})
	for _, two := range all {
		for _, c := range calls() {
			one, has := c.of(two[0], two[1])
			again, _ := c.of(two[0], two[1])
			others := slices.Concat(memory(two[0]), memory(two[1]), memory(again))
			once := map[uintptr]int{}
			for _, at := range memory(one) {
				once[at]++
				if once[at] > 1 || slices.Contains(others, at) {
					t.Errorf("%s(%s, %s), %t, shares memory", c.name, textOf(two[0]), textOf(two[1]), has)
				}
			}
		}
	}
}
