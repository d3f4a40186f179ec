package kind_test

import (
	"math"
	"math/rand"
	"reflect"
	"regexp"
	"slices"
	"strconv"
	"strings"
	"testing"
	"unsafe"

	"merlon/api"
	"merlon/kind"
	"merlon/sample"
)

var (
	intT, textT, boolT = sample.Int(), sample.Text(), sample.Bool()

	list    = sample.List
	fn      = sample.Func
	local   = sample.Local
	open    = sample.Open
	record  = sample.Record
	variant = sample.Variant
	clone   = sample.CloneType
)

// named is a Record, or a Variant, of names with spaces between.
func named(k int, names string, subs ...api.Type) api.Type {
	return api.Type{Kind: k, Names: strings.Fields(names), Subs: subs}
}

// many is n times a type.
func many(n int, s api.Type) []api.Type { return slices.Repeat([]api.Type{s}, n) }

// letters are n names of one or two letters, rising, that begin with a letter from that one on.
func letters(n int, from byte) []string {
	var l []string
	for i := range n {
		l = append(l, string([]byte{from + byte(i/10), '0' + byte(i%10)}))
	}
	return l
}

// wide is a Record, a Variant or a Func of n Subs.
func wide(k, n int, s api.Type) api.Type {
	t := api.Type{Kind: k, Subs: many(n, s)}
	switch k {
	case api.Record:
		t.Names = letters(n, 'a')
	case api.Variant:
		t.Names = letters(n, 'A')
	}
	return t
}

// deep is a type that is n levels deep, of the sort that wrap puts around another one.
func deep(n int, last api.Type, wrap func(api.Type) api.Type) api.Type {
	for range n - 1 {
		last = wrap(last)
	}
	return last
}

// sized is a type of n types in all, 4 levels deep at most; n is at least 1.
func sized(n int) api.Type {
	if n == 1 {
		return intT
	}
	var subs []api.Type
	left := n - 1
	for left > 0 {
		take := min(left, (n-1+19)/20)
		subs = append(subs, sized(take))
		left -= take
	}
	return fn(subs...)
}

var (
	smallName = regexp.MustCompile(`\A[a-z][a-z0-9]{0,19}\z`)
	greatName = regexp.MustCompile(`\A[A-Z][A-Za-z0-9]{0,19}\z`)
	smallNone = regexp.MustCompile(`\A(as|alias|dep|hidden|import|is|module|opaque|package|use|val|version)\z`)
	greatNone = regexp.MustCompile(`\A(Int|Text|Bool|List)\z`)
)

func small(s string) bool { return smallName.MatchString(s) && !smallNone.MatchString(s) }

func great(s string) bool { return greatName.MatchString(s) && !greatNone.MatchString(s) }

// row is a line of the chapter's table: how many Subs, and which fields are told.
type row struct {
	least, most int
	names       func(string) bool
	local, open bool
}

func rowOf(k int) (row, bool) {
	rows := map[int]row{
		api.Int: {}, api.Text: {}, api.Bool: {},
		api.List:    {least: 1, most: 1},
		api.Record:  {least: 0, most: 20, names: small},
		api.Variant: {least: 1, most: 20, names: great},
		api.Func:    {least: 1, most: 20},
		api.Local:   {local: true},
		api.Open:    {open: true},
	}
	r, ok := rows[k]
	return r, ok
}

// fits holds one type, but not its Subs, against its line of the table.
func fits(t api.Type) bool {
	r, ok := rowOf(t.Kind)
	if !ok || len(t.Subs) < r.least || len(t.Subs) > r.most {
		return false
	}
	if r.names == nil && len(t.Names) != 0 || r.names != nil && len(t.Names) != len(t.Subs) {
		return false
	}
	sorted := slices.Compact(slices.Sorted(slices.Values(t.Names)))
	if !slices.Equal(sorted, t.Names) || slices.ContainsFunc(t.Names, func(s string) bool { return !r.names(s) }) {
		return false
	}
	switch {
	case r.local:
		return t.Pkg == "" && t.Major == 0 && (t.Mod == "" || small(t.Mod)) && great(t.Name)
	case r.open:
		return small(t.Pkg) && t.Major > 0 && t.Major < 1000000000 && small(t.Mod) && great(t.Name)
	}
	return t.Pkg+t.Mod+t.Name == "" && t.Major == 0
}

// model reads the chapter level by level: how many types there are, 0 if it may not be, and whether it is plain.
func model(t api.Type) (size int, plain bool) {
	plain = true
	level := []api.Type{t}
	for depth := 1; len(level) > 0; depth++ {
		size += len(level)
		if size > 500 || depth > 32 {
			return 0, false
		}
		var next []api.Type
		for _, s := range level {
			if !fits(s) {
				return 0, false
			}
			plain = plain && s.Kind != api.Local
			next = append(next, s.Subs...)
		}
		level = next
	}
	return size, plain
}

// textOf is the text of a type that may be.
func textOf(t api.Type) string {
	var parts []string
	for i, s := range t.Subs {
		part := textOf(s)
		if len(t.Names) > 0 {
			part = t.Names[i] + ": " + part
		}
		parts = append(parts, part)
	}
	all := strings.Join(parts, ", ")
	switch t.Kind {
	case api.List:
		return "List(" + all + ")"
	case api.Record:
		return "{" + all + "}"
	case api.Variant:
		return "[" + all + "]"
	case api.Func:
		last := len(parts) - 1
		return "(" + strings.Join(parts[:last], ", ") + ") -> " + parts[last]
	case api.Local:
		return strings.TrimPrefix(t.Mod+"."+t.Name, ".")
	case api.Open:
		return "<" + strings.Join([]string{t.Pkg, strconv.Itoa(t.Major), t.Mod, t.Name}, " ") + ">"
	}
	return []string{"", "Int", "Text", "Bool"}[t.Kind]
}

// brief is what is told of a type that may have no end.
func brief(t api.Type) string {
	s := "Kind " + strconv.Itoa(t.Kind) + ", " + strconv.Itoa(len(t.Names)) + " Names, " + strconv.Itoa(len(t.Subs)) + " Subs"
	for _, f := range []string{t.Pkg, t.Mod, t.Name, strings.Join(t.Names[:min(len(t.Names), 25)], " ")} {
		s += ", " + strconv.Quote(f[:min(len(f), 120)])
	}
	return s + ", Major " + strconv.Itoa(t.Major)
}

// wantMay holds a type that may be against its size, whether it is plain, and its text.
func wantMay(t *testing.T, k api.Type, size int, plain bool, text string) {
	t.Helper()
	got, err := kind.Print(k)
	if !kind.May(k) || kind.Size(k) != size || kind.Plain(k) != plain || got != text || err != nil || !kind.Same(k, k) {
		t.Errorf("%s: May %t, Size %d, Plain %t, Print %.200q, %v, Same %t; want size %d, plain %t, %.200q", brief(k),
			kind.May(k), kind.Size(k), kind.Plain(k), got, err, kind.Same(k, k), size, plain, text)
	}
}

// wantNone holds a type that may not be against all calls.
func wantNone(t *testing.T, k api.Type) {
	t.Helper()
	got, err := kind.Print(k)
	if kind.May(k) || kind.Size(k) != 0 || kind.Plain(k) || got != "" || err != api.ErrArg || kind.Same(k, k) || kind.Same(k, intT) || kind.Same(intT, k) {
		t.Errorf("%s: May %t, Size %d, Plain %t, Print %.200q, %v, Same %t; it may not be", brief(k),
			kind.May(k), kind.Size(k), kind.Plain(k), got, err, kind.Same(k, k))
	}
}

// wantNoneIn holds a type that may not be, and those that have it as a Sub.
func wantNoneIn(t *testing.T, k api.Type) {
	t.Helper()
	wantNone(t, k)
	wantNone(t, list(k))
	wantNone(t, fn(k, intT))
	wantNone(t, fn(intT, k))
	wantNone(t, record("a b", intT, k))
	wantNone(t, variant("A B", k, intT))
	wantNone(t, fn(list(record("a", k)), intT))
}

// check holds any type against the chapter's table.
func check(t *testing.T, k api.Type) {
	t.Helper()
	size, plain := model(k)
	if size == 0 {
		wantNone(t, k)
		return
	}
	wantMay(t, k, size, plain, textOf(k))
}

func TestExample(t *testing.T) {
	wantMay(t, fn(intT, boolT), 3, true, "(Int) -> Bool")
}

func TestOrdinary(t *testing.T) {
	wantMay(t, intT, 1, true, "Int")
	wantMay(t, textT, 1, true, "Text")
	wantMay(t, boolT, 1, true, "Bool")
	wantMay(t, list(intT), 2, true, "List(Int)")
	wantMay(t, list(list(textT)), 3, true, "List(List(Text))")
	wantMay(t, record(""), 1, true, "{}")
	wantMay(t, record("a", intT), 2, true, "{a: Int}")
	wantMay(t, record("a b", intT, textT), 3, true, "{a: Int, b: Text}")
	wantMay(t, record("a b c", intT, list(boolT), record("")), 5, true, "{a: Int, b: List(Bool), c: {}}")
	wantMay(t, variant("A", intT), 2, true, "[A: Int]")
	wantMay(t, variant("A B", record(""), textT), 3, true, "[A: {}, B: Text]")
	wantMay(t, fn(intT), 2, true, "() -> Int")
	wantMay(t, fn(intT, textT, boolT), 4, true, "(Int, Text) -> Bool")
	wantMay(t, fn(fn(intT, textT), boolT), 5, true, "((Int) -> Text) -> Bool")
	wantMay(t, fn(intT, fn(textT, boolT)), 5, true, "(Int) -> (Text) -> Bool")
	wantMay(t, fn(fn(intT)), 3, true, "() -> () -> Int")
	wantMay(t, local("", "T"), 1, false, "T")
	wantMay(t, local("m", "T"), 1, false, "m.T")
	wantMay(t, local("mod1", "Point2D"), 1, false, "mod1.Point2D")
	wantMay(t, open("p", 1, "m", "T"), 1, true, "<p 1 m T>")
	wantMay(t, open("json", 20, "reader", "Value"), 1, true, "<json 20 reader Value>")
	wantMay(t, list(open("p", 1, "m", "T")), 2, true, "List(<p 1 m T>)")
	wantMay(t, fn(open("p", 1, "m", "T"), local("q", "U"), variant("None Some", record(""), local("", "T"))), 6, false, "(<p 1 m T>, q.U) -> [None: {}, Some: T]")
}

// A Local is found wherever it stands, and an Open is none.
func TestPlain(t *testing.T) {
	for _, l := range []api.Type{local("", "T"), local("m", "T")} {
		wantMay(t, list(l), 2, false, "List("+textOf(l)+")")
		wantMay(t, fn(l), 2, false, "() -> "+textOf(l))
		wantMay(t, fn(l, intT), 3, false, "("+textOf(l)+") -> Int")
		wantMay(t, fn(intT, l, intT), 4, false, "(Int, "+textOf(l)+") -> Int")
		wantMay(t, record("a b", intT, l), 3, false, "{a: Int, b: "+textOf(l)+"}")
		wantMay(t, record("a b", l, intT), 3, false, "{a: "+textOf(l)+", b: Int}")
		wantMay(t, variant("A B", intT, l), 3, false, "[A: Int, B: "+textOf(l)+"]")
		check(t, deep(31, l, list))
		check(t, fn(append(many(19, intT), l)...))
	}
	// One that may not be isn't plain, with a Local and without.
	wantNone(t, list(api.Type{}))
	wantNone(t, fn(local("", "T"), api.Type{}))
	wantNone(t, fn())
}

func TestKinds(t *testing.T) {
	var whole []int
	for k := api.Int; k <= api.Open; k++ {
		whole = append(whole, k)
	}
	if len(whole) != 9 {
		t.Fatalf("%d kinds", len(whole))
	}
	for _, k := range []int{0, -1, -9, 10, 11, 100, 256, 257, 256 + 4, 1<<16 + 1, 1<<32 + 1, math.MaxInt, math.MinInt, math.MinInt + 1} {
		wantNoneIn(t, api.Type{Kind: k})
		for _, o := range samples() {
			o.Kind = k
			wantNoneIn(t, o)
		}
	}
	wantNoneIn(t, api.Type{})
}

// samples are types that may be: at least one of each Kind.
func samples() []api.Type {
	return []api.Type{
		intT, textT, boolT, list(intT), record(""), record("a", intT), record("a b", intT, list(textT)), variant("A", intT), variant("A B", record(""), textT),
		fn(intT), fn(intT, textT), fn(intT, textT, boolT), local("", "T"), local("m", "T"), open("p", 1, "m", "T"),
	}
}

// Each type as another Kind, and with each field that may be told elsewhere.
func TestFields(t *testing.T) {
	for _, s := range samples() {
		for k := api.Int; k <= api.Open; k++ {
			o := s
			o.Kind = k
			check(t, o)
		}
		for _, change := range []func(*api.Type){
			func(o *api.Type) { o.Pkg = "p" }, func(o *api.Type) { o.Pkg = "P" }, func(o *api.Type) { o.Pkg = "" }, func(o *api.Type) { o.Pkg = " " }, func(o *api.Type) { o.Pkg = "\x00" },
			func(o *api.Type) { o.Mod = "m" }, func(o *api.Type) { o.Mod = "M" }, func(o *api.Type) { o.Mod = "" }, func(o *api.Type) { o.Mod = "val" }, func(o *api.Type) { o.Mod = " " },
			func(o *api.Type) { o.Name = "T" }, func(o *api.Type) { o.Name = "t" }, func(o *api.Type) { o.Name = "" }, func(o *api.Type) { o.Name = "Int" }, func(o *api.Type) { o.Name = " " },
			func(o *api.Type) { o.Major = 0 }, func(o *api.Type) { o.Major = 1 }, func(o *api.Type) { o.Major = 2 }, func(o *api.Type) { o.Major = -1 },
			func(o *api.Type) { o.Names = nil }, func(o *api.Type) { o.Names = []string{} }, func(o *api.Type) { o.Names = []string{""} }, func(o *api.Type) { o.Names = []string{"a"} },
			func(o *api.Type) { o.Names = []string{"A"} }, func(o *api.Type) { o.Names = []string{"a", "b"} }, func(o *api.Type) { o.Names = []string{"A", "B"} },
			func(o *api.Type) { o.Subs = nil }, func(o *api.Type) { o.Subs = []api.Type{} }, func(o *api.Type) { o.Subs = many(1, intT) }, func(o *api.Type) { o.Subs = many(2, intT) },
			func(o *api.Type) { o.Subs = many(1, api.Type{}) }, func(o *api.Type) { o.Subs = many(2, api.Type{}) }, func(o *api.Type) { o.Subs = many(20, intT) },
		} {
			o := s
			change(&o)
			check(t, o)
			check(t, list(o))
			check(t, fn(intT, o))
		}
	}
}

// What isn't told at a Kind is empty, or 0: one such field is enough that it may not be.
func TestUntold(t *testing.T) {
	for _, s := range samples() {
		for _, f := range []string{"Pkg", "Major", "Mod", "Name", "Names", "Subs"} {
			told := map[int]string{api.List: "Subs", api.Record: "Names Subs", api.Variant: "Names Subs", api.Func: "Subs", api.Local: "Mod Name", api.Open: "Pkg Major Mod Name"}[s.Kind]
			if slices.Contains(strings.Fields(told), f) {
				continue
			}
			o := s
			switch v := reflect.ValueOf(&o).Elem().FieldByName(f); f {
			case "Major":
				v.SetInt(1)
			case "Names":
				v.Set(reflect.ValueOf([]string{"a"}))
			case "Subs":
				v.Set(reflect.ValueOf([]api.Type{intT}))
			case "Name":
				v.SetString("T")
			default:
				v.SetString("m")
			}
			wantNoneIn(t, o)
		}
	}
}

func TestSubs(t *testing.T) {
	for n := range 60 {
		for _, k := range []int{api.Int, api.Text, api.Bool, api.List, api.Record, api.Variant, api.Func, api.Local, api.Open} {
			o := wide(k, n, boolT)
			check(t, o)
			check(t, list(o))
		}
	}
	for _, k := range []int{api.Record, api.Variant, api.Func} {
		if s := wide(k, 20, textT); kind.Size(s) != 21 {
			t.Errorf("%s: Size %d", brief(s), kind.Size(s))
		}
		wantNoneIn(t, wide(k, 21, textT))
		wantNoneIn(t, wide(k, 256, textT))
		wantNoneIn(t, wide(k, 257, textT))
		wantNoneIn(t, wide(k, 256+5, textT))
	}
	wantMay(t, record(""), 1, true, "{}")
	wantMay(t, api.Type{Kind: api.Record, Names: []string{}, Subs: []api.Type{}}, 1, true, "{}")
	wantMay(t, api.Type{Kind: api.Record}, 1, true, "{}")
	for _, k := range []int{api.List, api.Variant, api.Func} {
		wantNoneIn(t, api.Type{Kind: k})
		wantNoneIn(t, api.Type{Kind: k, Names: []string{}, Subs: []api.Type{}})
	}
	wantNoneIn(t, api.Type{Kind: api.List, Subs: many(2, intT)})
}

// Lists of Names and of Subs that don't fit one another.
func TestNamesAndSubs(t *testing.T) {
	for _, k := range []int{api.List, api.Record, api.Variant, api.Func} {
		for names := range 24 {
			for subs := range 24 {
				o := wide(k, names, intT)
				if k == api.List || k == api.Func {
					o.Names = letters(names, 'a')
				}
				o.Subs = many(subs, intT)
				check(t, o)
			}
		}
	}
	wantNoneIn(t, api.Type{Kind: api.Record, Names: letters(100, 'a'), Subs: many(1, intT)})
	wantNoneIn(t, api.Type{Kind: api.Record, Names: []string{"a"}, Subs: many(30000, intT)})
	wantNoneIn(t, api.Type{Kind: api.Record, Names: slices.Repeat([]string{"a"}, 30000)})
	wantNoneIn(t, api.Type{Kind: api.Variant, Names: []string{"A"}, Subs: nil})
	wantNoneIn(t, api.Type{Kind: api.Variant, Names: nil, Subs: many(1, intT)})
}

// wantRising holds rising names of a Record, or a Variant, against the same ones in another order, one of them twice, and one of the other sort.
func wantRising(t *testing.T, k int, names string, other func(string) string) {
	t.Helper()
	fresh := func() api.Type {
		o := named(k, names)
		o.Subs = many(len(o.Names), intT)
		return o
	}
	o := fresh()
	wantMay(t, o, 1+len(o.Names), true, textOf(o))
	slices.Reverse(o.Names)
	wantNoneIn(t, o)
	for i := range o.Names {
		o = fresh()
		o.Names[i] = o.Names[(i+1)%len(o.Names)]
		wantNoneIn(t, o)
		o = fresh()
		o.Names[i] = other(o.Names[i])
		wantNoneIn(t, o)
	}
}

func TestNames(t *testing.T) {
	for _, names := range []string{"a b", "a1 a2", "a10 a9", "a aa", "a0 aa", "list text", "x y z", "a a0 aa b", "asis modules vals"} {
		wantRising(t, api.Record, names, strings.ToUpper)
	}
	for _, names := range []string{"A B", "A1 A2", "A10 A9", "A Aa", "AA Aa", "Z Za", "List1 Text1", "X Y Z", "A A0 AA Aa B", "False True", "As Is"} {
		wantRising(t, api.Variant, names, strings.ToLower)
	}
	// Bytes rise, not letters nor numbers: these don't.
	for _, o := range []api.Type{record("a9 a10", intT, intT), record("aa a0", intT, intT), record("b a c", intT, intT, intT), record("a c b", intT, intT, intT), record("b b", intT, intT),
		record("a b b", intT, intT, intT), variant("Aa AA", intT, intT), variant("Aa AB", intT, intT), variant("B A", intT, intT), variant("A A", intT, intT), variant("A B A", intT, intT, intT)} {
		wantNoneIn(t, o)
	}
}

// What stands where a name is asked: each text at each place.
func TestSpelling(t *testing.T) {
	texts := []string{
		"", " ", "a", "z9", "A", "Z9", "aB", "Ab", "AB", "1", "1a", "a ", " a", "A ", "a.b", "A.B", "a_b", "A_b", "a:", "a,", "<", "a>", "\x00", "a\x00", "a\n", "\u00e9", "\u00c9", "a\u00e9", "\xff",
		"as", "alias", "dep", "hidden", "import", "is", "module", "opaque", "package", "use", "val", "version", "As", "Val", "Int", "Text", "Bool", "List", "int", "list", "INT", "true", "True", "fn", "end",
		strings.Repeat("a", 20), strings.Repeat("a", 21), strings.Repeat("A", 20), strings.Repeat("A", 21), strings.Repeat("a", 276), strings.Repeat("A", 1<<16+5), strings.Repeat("z", 1<<20),
	}
	for _, s := range texts {
		for _, o := range []api.Type{
			{Kind: api.Record, Names: []string{s}, Subs: many(1, intT)}, {Kind: api.Variant, Names: []string{s}, Subs: many(1, intT)},
			{Kind: api.Record, Names: []string{"a1", s}, Subs: many(2, intT)}, {Kind: api.Variant, Names: []string{"A1", s}, Subs: many(2, intT)},
			{Kind: api.Record, Names: []string{s, "zz"}, Subs: many(2, intT)}, {Kind: api.Variant, Names: []string{s, "Zz"}, Subs: many(2, intT)},
			local("", s), local("m", s), local(s, "T"), local(s, s), open(s, 1, "m", "T"), open("p", 1, s, "T"), open("p", 1, "m", s),
			{Kind: api.Int, Name: s}, {Kind: api.List, Mod: s, Subs: many(1, intT)}, {Kind: api.Func, Pkg: s, Subs: many(1, intT)}, {Kind: api.Local, Pkg: s, Name: "T"}, {Kind: api.Int, Names: []string{s}},
		} {
			check(t, o)
			check(t, list(o))
		}
	}
	wantMay(t, local("", strings.Repeat("A", 20)), 1, false, strings.Repeat("A", 20))
	wantMay(t, local("list", "Lists"), 1, false, "list.Lists")
	wantNoneIn(t, local("", ""))
	wantNoneIn(t, local("m", ""))
	wantNoneIn(t, local("M", "T"))
	wantNoneIn(t, local("m", "t"))
	wantNoneIn(t, open("", 1, "m", "T"))
	wantNoneIn(t, open("p", 1, "", "T"))
	wantNoneIn(t, open("p", 1, "m", ""))
	wantNoneIn(t, open("P", 1, "m", "T"))
	wantNoneIn(t, open("p", 1, "M", "T"))
	wantNoneIn(t, open("p", 1, "m", "t"))
}

func TestMajor(t *testing.T) {
	for _, n := range []int{1, 2, 9, 10, 255, 256, 65536, api.MaxPart - 1, api.MaxPart} {
		wantMay(t, open("p", n, "m", "T"), 1, true, "<p "+strconv.Itoa(n)+" m T>")
	}
	for _, n := range []int{0, -1, -api.MaxPart, api.MaxPart + 1, 1 << 31, 1<<32 + 1, math.MaxInt, math.MinInt} {
		wantNoneIn(t, open("p", n, "m", "T"))
	}
}

func TestDepth(t *testing.T) {
	wraps := []func(api.Type) api.Type{
		list, func(s api.Type) api.Type { return fn(s) }, func(s api.Type) api.Type { return fn(intT, s) }, func(s api.Type) api.Type { return fn(s, intT) },
		func(s api.Type) api.Type { return record("a", s) }, func(s api.Type) api.Type { return variant("A B", intT, s) },
	}
	for _, wrap := range wraps {
		for n := 1; n <= 70; n++ {
			for _, last := range []api.Type{intT, open("p", 1, "m", "T"), record(""), local("", "T")} {
				check(t, deep(n, last, wrap))
			}
			check(t, deep(n, api.Type{}, wrap))
		}
		if kind.May(deep(33, intT, wrap)) || !kind.May(deep(32, intT, wrap)) {
			t.Error("32 levels, and no more, may be")
		}
		wantNoneIn(t, deep(33, boolT, wrap))
		wantNoneIn(t, deep(256+3, boolT, wrap))
		wantNoneIn(t, deep(5000, boolT, wrap))
	}
	// Depth is the longest way, not all ways together.
	wantMay(t, fn(deep(31, intT, list), deep(31, intT, list)), 63, true, "("+strings.Repeat("List(", 30)+"Int"+strings.Repeat(")", 30)+") -> "+strings.Repeat("List(", 30)+"Int"+strings.Repeat(")", 30))
	wantNone(t, fn(intT, intT, deep(32, intT, list)))
	wantNone(t, fn(deep(32, intT, list), intT))
}

func TestSize(t *testing.T) {
	for n := 1; n <= 520; n++ {
		o := sized(n)
		check(t, o)
		if size, _ := model(o); n <= 500 && size != n || n > 500 && size != 0 {
			t.Fatalf("sized(%d) has %d", n, size)
		}
	}
	if kind.Size(sized(500)) != 500 || kind.Size(sized(501)) != 0 {
		t.Errorf("500: %d, 501: %d", kind.Size(sized(500)), kind.Size(sized(501)))
	}
	wantNoneIn(t, sized(501))
	wantNoneIn(t, sized(500+256))
	wantNoneIn(t, sized(8000))
	// One more around 500, and one more at the end of all.
	wantNone(t, list(sized(500)))
	wantMay(t, list(sized(499)), 500, true, "List("+textOf(sized(499))+")")
	wantNone(t, fn(sized(498), intT, intT))
	wantMay(t, fn(sized(498), intT), 500, true, "("+textOf(sized(498))+") -> Int")
	wantMay(t, fn(intT, sized(498)), 500, true, "(Int) -> "+textOf(sized(498)))
	// All that may be is the longest at once: 20 Subs, 20 bytes a name, 500 types.
	big := wide(api.Record, 20, wide(api.Record, 19, open(strings.Repeat("p", 20), api.MaxPart, strings.Repeat("m", 20), strings.Repeat("T", 20))))
	check(t, big)
	if kind.Size(big) != 401 {
		t.Errorf("Size %d", kind.Size(big))
	}
}

// shared is a type of as many levels, each with n times the memory of the next one: far more types than can be gone through.
func shared(levels, n int) api.Type {
	return deep(levels, intT, func(s api.Type) api.Type { return fn(many(n, s)...) })
}

func TestHuge(t *testing.T) {
	wantNoneIn(t, shared(40, 20))
	wantNoneIn(t, shared(32, 20))
	wantNoneIn(t, shared(32, 2))
	wantNoneIn(t, shared(3000, 20))
	wantNoneIn(t, shared(4, 20))
	wantNoneIn(t, deep(100000, intT, list))
	wantNoneIn(t, wide(api.Func, 100000, intT))
	wantNoneIn(t, fn(wide(api.Func, 100000, intT), intT))
	wantNoneIn(t, deep(2000, intT, func(s api.Type) api.Type { return fn(intT, textT, s, boolT) }))
	wantNoneIn(t, api.Type{Kind: api.Record, Names: slices.Repeat([]string{"a"}, 100000), Subs: many(100000, intT)})
	if kind.Same(shared(3000, 20), shared(3000, 20)) || kind.Same(deep(100000, intT, list), deep(100000, intT, list)) {
		t.Error("what may not be is the same")
	}
	// Shared memory alone is no fault: 1+20+400 types.
	wantMay(t, shared(3, 20), 421, true, textOf(shared(3, 20)))
}

// A type may lie in itself, by the memory of its Subs.
func TestCircles(t *testing.T) {
	for _, n := range []int{1, 2, 20, 21} {
		for _, k := range []int{api.List, api.Record, api.Variant, api.Func, api.Int, 0} {
			o := wide(k, n, intT)
			for i := range o.Subs {
				o.Subs[i] = o
			}
			wantNoneIn(t, o)
			if kind.Same(o, list(o)) {
				t.Error("circles are the same")
			}
		}
	}
	// Of two, one in the other, and the last Sub alone.
	a, b := fn(intT, intT), record("a b", textT, textT)
	a.Subs[1], b.Subs[1] = b, a
	wantNoneIn(t, a)
	wantNoneIn(t, b)
}

func wantSame(t *testing.T, a, b api.Type, want bool) {
	t.Helper()
	if kind.Same(a, b) != want || kind.Same(b, a) != want {
		t.Errorf("Same(%s; %s) = %t, and %t the other way round; want %t", brief(a), brief(b), kind.Same(a, b), kind.Same(b, a), want)
	}
}

func TestSame(t *testing.T) {
	l := append(samples(), textT, list(textT), list(list(intT)), record("b", intT), record("a", textT), record("a b", intT, list(boolT)), record("a c", intT, list(textT)),
		variant("B", intT), variant("A", textT), variant("A B", textT, record("")), fn(textT), fn(fn(intT)), fn(textT, intT), fn(list(intT), intT), fn(intT, list(intT)),
		local("", "U"), local("m", "U"), local("n", "T"), open("q", 1, "m", "T"), open("p", 2, "m", "T"), open("p", 1, "n", "T"), open("p", 1, "m", "U"),
		fn(intT, open("p", 1, "m", "T")), fn(intT, open("p", 1, "m", "U")), fn(intT, local("", "T")), sized(500), sized(499), deep(32, intT, list), deep(32, textT, list), deep(31, intT, list))
	for _, a := range l {
		for _, b := range l {
			wantSame(t, a, b, textOf(a) == textOf(b))
			wantSame(t, list(a), list(b), kind.May(list(a)) && textOf(a) == textOf(b))
			wantSame(t, fn(intT, a, boolT), fn(intT, b, boolT), kind.May(fn(intT, a, boolT)) && textOf(a) == textOf(b))
		}
	}
	// Nil lists and empty ones are alike, at all levels.
	for _, s := range l {
		wantSame(t, s, emptied(s), true)
		wantSame(t, list(s), list(emptied(s)), kind.May(list(s)))
		wantMay(t, emptied(s), kind.Size(s), kind.Plain(s), textOf(s))
	}
	// What is alike, but may not be, isn't the same.
	for _, o := range []api.Type{{}, {Kind: 10}, fn(), {Kind: api.Int, Name: "T"}, variant(""), record("b a", intT, intT), sized(501), deep(33, intT, list), local("", ""), open("p", 0, "m", "T")} {
		wantSame(t, o, o, false)
		wantSame(t, o, clone(o), false)
		wantSame(t, o, intT, false)
	}
}

// emptied is a type with empty lists where there were nil ones, and the other way round.
func emptied(t api.Type) api.Type {
	t = clone(t)
	t.Names, t.Subs = otherEmpty(t.Names), otherEmpty(t.Subs)
	for i, s := range t.Subs {
		t.Subs[i] = emptied(s)
	}
	return t
}

func otherEmpty[T any](l []T) []T {
	if l == nil {
		return []T{}
	}
	if len(l) == 0 {
		return nil
	}
	return l
}

// P4.3: what is handed in stays as it is, whether it may be or not, and what lies behind its lists, too.
func TestStays(t *testing.T) {
	l := append(samples(), record("b a", intT, textT), variant("B A A", intT, intT, intT), api.Type{Kind: api.Record, Names: []string{"b", "a"}, Subs: many(1, intT)},
		fn(), api.Type{}, sized(500), sized(501), deep(33, record(""), list), api.Type{Kind: api.Record, Names: []string{}, Subs: []api.Type{}}, wide(api.Record, 21, list(intT)))
	for _, s := range l {
		s.Subs = append(s.Subs, textT, local("", "Behind"))[:len(s.Subs)]
		s.Names = append(s.Names, "behind", "b")[:len(s.Names)]
		for _, o := range []api.Type{s, list(s), fn(intT, s)} {
			was, subs, names := clone(o), clone(fn(s.Subs[:cap(s.Subs)]...)), slices.Clone(s.Names[:cap(s.Names)])
			kind.May(o)
			kind.Size(o)
			kind.Plain(o)
			kind.Same(o, o)
			kind.Same(o, was)
			kind.Print(o)
			if !reflect.DeepEqual(o, was) || !reflect.DeepEqual(fn(s.Subs[:cap(s.Subs)]...), subs) || !slices.Equal(s.Names[:cap(s.Names)], names) {
				t.Errorf("%s was changed", brief(was))
			}
		}
	}
}

// shares tells whether a piece, of one byte at least, lies in the memory of a text.
func shares(s, piece string) bool {
	from := uintptr(unsafe.Pointer(unsafe.StringData(s)))
	at := uintptr(unsafe.Pointer(unsafe.StringData(piece)))
	return from <= at && at < from+uintptr(len(s))
}

// A text is new memory, also where it is a Local's Name and nothing else.
func TestNewTexts(t *testing.T) {
	for _, name := range []string{"T", "Point", strings.Repeat("A", 20)} {
		whole := "xx" + name + "yy"
		o := local("", whole[2:2+len(name)])
		s, err := kind.Print(o)
		if err != nil || s != name || shares(whole, s) {
			t.Errorf("Print(%s) = %q, %v, shared: %t", name, s, err, shares(whole, s))
		}
	}
}

// allTypes are types of up to so many types each, of few names: the smaller ones first.
func allTypes(most int) []api.Type {
	of := [][]api.Type{nil, {
		intT, textT, boolT, record(""), local("", "T"), local("", "U"), local("m", "T"), local("m", "U"), local("n", "T"), local("t", "T"), local("", "MT"),
		open("p", 1, "m", "T"), open("p", 11, "m", "T"), open("p", 1, "m", "U"), open("p1", 1, "m", "T"), open("p", 1, "m1", "T"), open("m", 1, "p", "T"), open("p", 1, "t", "T"),
	}}
	for n := 2; n <= most; n++ {
		var l []api.Type
		for _, subs := range splits(of, n-1) {
			if len(subs) == 1 {
				l = append(l, list(subs[0]), record("a", subs...), record("b", subs...), variant("A", subs...), variant("T", subs...))
			}
			if len(subs) == 2 {
				l = append(l, record("a b", subs...), record("a t", subs...), variant("A B", subs...), variant("A T", subs...))
			}
			if len(subs) == 3 {
				l = append(l, record("a b c", subs...), variant("A B C", subs...))
			}
			l = append(l, fn(subs...))
		}
		of = append(of, l)
	}
	return slices.Concat(of...)
}

// splits are all lists of types that have n types together; of[i] are those that have i.
func splits(of [][]api.Type, n int) [][]api.Type {
	if n == 0 {
		return [][]api.Type{nil}
	}
	var l [][]api.Type
	for first := 1; first <= n; first++ {
		for _, rest := range splits(of, n-first) {
			for _, s := range of[first] {
				l = append(l, append([]api.Type{s}, rest...))
			}
		}
	}
	return l
}

// P4.4: of all small types no two have one text.
func TestUnlikeTexts(t *testing.T) {
	seen := map[string]api.Type{}
	l := allTypes(4)
	for _, s := range l {
		check(t, s)
		text, err := kind.Print(s)
		if other, ok := seen[text]; ok || err != nil {
			t.Fatalf("%s and %s: %q, %v", brief(s), brief(other), text, err)
		}
		seen[text] = s
	}
	if len(l) < 30000 {
		t.Errorf("%d types", len(l))
	}
	// All pairs of the smaller ones: the same just if their texts are.
	l = allTypes(2)
	for _, a := range l {
		for _, b := range l {
			wantSame(t, a, b, textOf(a) == textOf(b))
		}
	}
}

// anyText is a text for a field: seldom one that may not be.
func anyText(r *rand.Rand, good, bad []string) string {
	if r.Intn(100) == 0 {
		return bad[r.Intn(len(bad))]
	}
	return good[r.Intn(len(good))]
}

// anyType is a type, the same ones at each run, of at most so many levels; now and then it may not be.
func anyType(r *rand.Rand, levels int) api.Type {
	smalls, greats := strings.Fields("a b c d e x1 y2 list json"), strings.Fields("A B C T U Some None X1")
	o := api.Type{Kind: 1 + r.Intn(9)}
	if levels == 1 {
		o.Kind = []int{api.Int, api.Text, api.Bool, api.Record, api.Local, api.Open}[r.Intn(6)]
	}
	n := 0
	switch o.Kind {
	case api.List:
		n = 1
	case api.Record, api.Variant:
		n = r.Intn(4)
		from, other := smalls, greats
		if o.Kind == api.Variant {
			from, other, n = greats, smalls, n+1
		}
		for range n {
			o.Names = append(o.Names, anyText(r, from, other))
		}
		slices.Sort(o.Names)
		o.Names = slices.Compact(o.Names)
		n = len(o.Names)
	case api.Func:
		n = 1 + r.Intn(4)
	case api.Local:
		o.Mod, o.Name = anyText(r, append(smalls, "", "", ""), greats), anyText(r, greats, smalls)
	case api.Open:
		o.Pkg, o.Major, o.Mod, o.Name = anyText(r, smalls, greats), 1+r.Intn(3), anyText(r, smalls, []string{"", "A", "val"}), anyText(r, greats, smalls)
	}
	if levels == 1 {
		o.Names, n = nil, 0
	}
	for range n {
		o.Subs = append(o.Subs, anyType(r, levels-1))
	}
	spoil(r, &o)
	return o
}

// spoil changes, seldom, one thing of a type: most such ones may not be any more.
func spoil(r *rand.Rand, o *api.Type) {
	switch r.Intn(150) {
	case 0:
		o.Kind = r.Intn(14) - 2
	case 1:
		o.Name = "T"
	case 2:
		o.Mod = "m"
	case 3:
		o.Pkg = "p"
	case 4:
		o.Major = r.Intn(3) - 1
	case 5:
		o.Subs = append(o.Subs, intT)
	case 6:
		o.Names = append(o.Names, "z")
	case 7:
		slices.Reverse(o.Names)
	case 8:
		o.Subs = nil
	case 9:
		o.Names = nil
	}
}

func TestManyTypes(t *testing.T) {
	r := rand.New(rand.NewSource(4))
	may, texts := 0, map[string]api.Type{}
	for range 30000 {
		s := anyType(r, 2+r.Intn(7))
		check(t, s)
		if !kind.May(s) {
			continue
		}
		may++
		text := textOf(s)
		if other, ok := texts[text]; ok {
			wantSame(t, s, other, true)
		}
		texts[text] = s
	}
	if may < 15000 || may > 29000 {
		t.Errorf("%d of them may be", may)
	}
}
