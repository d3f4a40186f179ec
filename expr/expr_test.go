package expr_test

import (
	"errors"
	"math"
	"math/rand"
	"reflect"
	"regexp"
	"slices"
	"strconv"
	"strings"
	"testing"
	"unsafe"

	"merlon/api"
	"merlon/expr"
	"merlon/kind"
	"merlon/lex"
	"merlon/sample"
)

const (
	low  = api.TokLower
	up   = api.TokUpper
	num  = api.TokNumber
	sign = api.TokSign
)

var (
	intT, textT, boolT = sample.Int(), sample.Text(), sample.Bool()

	list    = sample.List
	fn      = sample.Func
	local   = sample.Local
	open    = sample.Open
	record  = sample.Record
	variant = sample.Variant
	clone   = sample.CloneType
	isSpot  = sample.IsSpot
)

func many(n int, s api.Type) []api.Type { return slices.Repeat([]api.Type{s}, n) }

// wide is a Record, a Variant or a Func of n Subs.
func wide(k, n int, s api.Type) api.Type {
	t := api.Type{Kind: k, Subs: many(n, s)}
	for i := range n {
		name := "x" + string([]byte{'a' + byte(i/26), 'a' + byte(i%26)})
		switch k {
		case api.Record:
			t.Names = append(t.Names, name)
		case api.Variant:
			t.Names = append(t.Names, "X"+name[1:])
		}
	}
	return t
}

// deep is n levels deep, of the sort that wrap puts around another one.
func deep(n int, last api.Type, wrap func(api.Type) api.Type) api.Type {
	for range n - 1 {
		last = wrap(last)
	}
	return last
}

func wraps() []func(api.Type) api.Type {
	return []func(api.Type) api.Type{
		list, func(s api.Type) api.Type { return fn(s) }, func(s api.Type) api.Type { return fn(intT, s) }, func(s api.Type) api.Type { return fn(s, intT) },
		func(s api.Type) api.Type { return record("a", s) }, func(s api.Type) api.Type { return record("a b", textT, s) }, func(s api.Type) api.Type { return variant("A B", s, intT) },
	}
}

// sized is a type of n types in all, 4 levels deep at most, of Records or of Funcs.
func sized(k, n int) api.Type {
	if n == 1 {
		return intT
	}
	var subs []api.Type
	for left := n - 1; left > 0; {
		take := min(left, (n-1+19)/20)
		subs = append(subs, sized(k, take))
		left -= take
	}
	t := wide(k, len(subs), intT)
	t.Subs = subs
	return t
}

// writer writes a type's words, its names in the order in which they stand, whether it may be or not.
type writer struct {
	words []string
	types int
	large int // the first word at which a limit is passed, or -1
}

func (w *writer) put(words ...string) { w.words = append(w.words, words...) }

// pass notes that a limit is passed at the next word.
func (w *writer) pass(so bool) {
	if so && w.large < 0 {
		w.large = len(w.words)
	}
}

func (w *writer) write(t api.Type, depth, nth int) {
	w.types++
	w.pass(depth > 32 || w.types > 500 || nth > 20)
	switch t.Kind {
	case api.Int, api.Text, api.Bool:
		w.put([]string{"Int", "Text", "Bool"}[t.Kind-1])
	case api.List:
		w.put("List", "(")
		w.write(t.Subs[0], depth+1, 1)
		w.put(")")
	case api.Record:
		w.writeNamed(t, depth, "{", "}")
	case api.Variant:
		w.writeNamed(t, depth, "[", "]")
	case api.Func:
		w.writeFunc(t, depth)
	case api.Local:
		if t.Mod != "" {
			w.put(t.Mod, ".")
		}
		w.put(t.Name)
	case api.Open:
		w.put("<", t.Pkg, strconv.Itoa(t.Major), t.Mod, t.Name, ">")
	}
}

func (w *writer) writeNamed(t api.Type, depth int, begin, end string) {
	w.put(begin)
	for i, s := range t.Subs {
		if i > 0 {
			w.put(",")
		}
		w.pass(i >= 20)
		w.put(t.Names[i], ":")
		w.write(s, depth+1, i+1)
	}
	w.put(end)
}

func (w *writer) writeFunc(t api.Type, depth int) {
	last := len(t.Subs) - 1
	w.put("(")
	for i, s := range t.Subs[:last] {
		if i > 0 {
			w.put(",")
		}
		w.write(s, depth+1, i+1)
	}
	w.put(")", "->")
	w.write(t.Subs[last], depth+1, last+1)
}

func written(t api.Type) *writer {
	w := &writer{large: -1}
	w.write(t, 1, 1)
	return w
}

func textOf(t api.Type) string { return strings.Join(written(t).words, " ") }

// tokens are those of a text that lex takes.
func tokens(t *testing.T, s string) []api.Token {
	t.Helper()
	l, err := lex.Tokens(s)
	if err != nil {
		t.Fatalf("Tokens(%.60q): %v", s, err)
	}
	return l
}

// brief is what is told of tokens.
func brief(l []api.Token) string {
	s := lex.Join(l[:min(len(l), 40)])
	return strconv.Quote(s[:min(len(s), 200)]) + " (" + strconv.Itoa(len(l)) + " tokens)"
}

func sameType(a, b api.Type) bool { return kind.Same(a, b) }

func zero(t api.Type) bool { return reflect.DeepEqual(t, api.Type{}) }

// wantAt holds the type at a place, and the place behind.
func wantAt(t *testing.T, l []api.Token, i int, want api.Type, end int) {
	t.Helper()
	got, n, err := expr.At(l, i)
	if err != nil || n != end || !sameType(got, want) {
		text, _ := kind.Print(got)
		t.Errorf("At(%s, %d) = %.200q, %d, %v; want %.200q, %d", brief(l), i, text, n, err, textOf(want), end)
	}
}

// wantAtSpot holds what is amiss, and where; no other result is told.
func wantAtSpot(t *testing.T, l []api.Token, i int, code api.Code, at int) {
	t.Helper()
	got, n, err := expr.At(l, i)
	if !isSpot(err, code, at) || n != 0 || !zero(got) {
		t.Errorf("At(%s, %d) = %v, %d, %v; want %v at %d", brief(l), i, got.Kind, n, err, code, at)
	}
}

// wantParse holds a text's type; and the same of its tokens with others around.
func wantParse(t *testing.T, s string, want api.Type) {
	t.Helper()
	got, err := expr.Parse(s)
	if err != nil || !sameType(got, want) {
		text, _ := kind.Print(got)
		t.Errorf("Parse(%.200q) = %.200q, %v; want %.200q", s, text, err, textOf(want))
	}
	l := tokens(t, s)
	wantAt(t, l, 0, want, len(l))
	around := slices.Concat(tokens(t, "val f :"), l, tokens(t, "val g"))
	wantAt(t, around, 3, want, 3+len(l))
}

// wantSpot holds what is amiss in a text, and at which token.
func wantSpot(t *testing.T, s string, code api.Code, at int) {
	t.Helper()
	if got, err := expr.Parse(s); !isSpot(err, code, at) || !zero(got) {
		t.Errorf("Parse(%.200q) = %v, %v; want %v at %d", s, got.Kind, err, code, at)
	}
}

// wantAmiss holds the same of At: wherever the tokens stand, and whatever stands behind the one at fault.
func wantAmiss(t *testing.T, s string, code api.Code, at int) {
	t.Helper()
	wantSpot(t, s, code, at)
	l := tokens(t, s)
	wantAtSpot(t, l, 0, code, at)
	wantAtSpot(t, slices.Concat(tokens(t, "alias A ="), l), 3, code, at+3)
	if at == len(l) {
		return
	}
	wantAtSpot(t, l[:at+1], 0, code, at)
	for _, s := range []string{"", "val", "a", "T", "9", ")", ", x : Int }", ": Int ]", "-> Int", "{ a : Int , a : Int"} {
		wantAtSpot(t, slices.Concat(l[:at+1], tokens(t, s)), 0, code, at)
	}
}

func wantForm(t *testing.T, s string, at int) {
	t.Helper()
	wantAmiss(t, s, api.ErrForm, at)
}

func TestExample(t *testing.T) {
	wantParse(t, "{b: Int, a: Text}", record("a b", textT, intT))
}

func TestOrdinary(t *testing.T) {
	wantParse(t, "Int", intT)
	wantParse(t, "Text", textT)
	wantParse(t, "Bool", boolT)
	wantParse(t, "List(Int)", list(intT))
	wantParse(t, "List(List(Text))", list(list(textT)))
	wantParse(t, "{}", record(""))
	wantParse(t, "{a: Int}", record("a", intT))
	wantParse(t, "{a: Int, b: {c: Bool}}", record("a b", intT, record("c", boolT)))
	wantParse(t, "[A: Int]", variant("A", intT))
	wantParse(t, "[None: {}, Some: T]", variant("None Some", record(""), local("", "T")))
	wantParse(t, "() -> Int", fn(intT))
	wantParse(t, "(Int) -> Bool", fn(intT, boolT))
	wantParse(t, "(Int, Text) -> Bool", fn(intT, textT, boolT))
	wantParse(t, "((Int) -> Text) -> Bool", fn(fn(intT, textT), boolT))
	wantParse(t, "(Int) -> (Text) -> Bool", fn(intT, fn(textT, boolT)))
	wantParse(t, "() -> () -> Int", fn(fn(intT)))
	wantParse(t, "(() -> Int) -> Int", fn(fn(intT), intT))
	wantParse(t, "({}, [A: Int]) -> Int", fn(record(""), variant("A", intT), intT))
	wantParse(t, "T", local("", "T"))
	wantParse(t, "Point2D", local("", "Point2D"))
	wantParse(t, "m.T", local("m", "T"))
	wantParse(t, "list.Lists", local("list", "Lists"))
	wantParse(t, "<p 1 m T>", open("p", 1, "m", "T"))
	wantParse(t, "<json 20 reader Value>", open("json", 20, "reader", "Value"))
	wantParse(t, "(<p 1 m T>, q.U) -> [None: {}, Some: T]", fn(open("p", 1, "m", "T"), local("q", "U"), variant("None Some", record(""), local("", "T"))))
}

// Tokens alone count, not what stands between them.
func TestBetween(t *testing.T) {
	wantParse(t, "(Int)->Bool", fn(intT, boolT))
	wantParse(t, "\t( Int )\n\n-> # a remark ) } ]\nBool # Int", fn(intT, boolT))
	wantParse(t, "{a:Int,b:m.T}", record("a b", intT, local("m", "T")))
	wantParse(t, "{ a : Int , b : m . T }", record("a b", intT, local("m", "T")))
	wantParse(t, "m # the module\n . # the type\n T", local("m", "T"))
	wantParse(t, "<p 1m T>", open("p", 1, "m", "T"))
	wantParse(t, "<p#\n1#\nm#\nT#\n>", open("p", 1, "m", "T"))
	wantParse(t, "(<p 1 m T>)-><p 1 m T>", fn(open("p", 1, "m", "T"), open("p", 1, "m", "T")))
	wantForm(t, "<p1 m T>", 2)
	wantForm(t, "<p 1 mT>", 3)
	wantForm(t, "<p 1 m T->", 5)
	wantForm(t, "(Int) > Bool", 3)
}

// Names in any order are told sorted, byte by byte, and the Subs with them.
func TestNamesInAnyOrder(t *testing.T) {
	subs := map[string]api.Type{"a": intT, "a1": textT, "aa": list(boolT), "b": record("x", intT), "A": intT, "A1": textT, "AA": fn(intT), "Aa": local("m", "T"), "B": boolT}
	for _, all := range []string{"a a1 aa b", "A A1 AA Aa B"} {
		names := strings.Fields(all)
		var sorted []api.Type
		for _, n := range names {
			sorted = append(sorted, subs[n])
		}
		want, begin, end := record(all, sorted...), "{", "}"
		if all[0] == 'A' {
			want, begin, end = variant(all, sorted...), "[", "]"
		}
		for _, p := range orders(len(names)) {
			var parts []string
			for _, i := range p {
				parts = append(parts, names[i]+": "+textOf(subs[names[i]]))
			}
			s := begin + strings.Join(parts, ", ") + end
			wantParse(t, s, want)
			wantParse(t, "("+s+") -> "+s, fn(want, want))
		}
	}
	wantParse(t, "{b: {d: Int, c: [B: {}, A: Text]}, a: Bool}", record("a b", boolT, record("c d", variant("A B", textT, record("")), intT)))
	// The order of a function's parameters is its own.
	wantParse(t, "(Text, Int) -> Bool", fn(textT, intT, boolT))
	wantParse(t, "(B, A) -> A", fn(local("", "B"), local("", "A"), local("", "A")))
}

// orders are all orders of so many things.
func orders(n int) [][]int {
	if n == 0 {
		return [][]int{nil}
	}
	var l [][]int
	for _, o := range orders(n - 1) {
		for i := range n {
			l = append(l, slices.Insert(slices.Clone(o), i, n-1))
		}
	}
	return l
}

// Many names, from the last one to the first one.
func TestManyNames(t *testing.T) {
	for n := 1; n <= 20; n++ {
		for _, k := range []int{api.Record, api.Variant} {
			want := wide(k, n, intT)
			for i := range n {
				want.Subs[i] = local("", "T"+strconv.Itoa(i))
			}
			back := clone(want)
			slices.Reverse(back.Names)
			slices.Reverse(back.Subs)
			wantParse(t, textOf(back), want)
			wantParse(t, textOf(want), want)
		}
	}
}

func TestForm(t *testing.T) {
	// What no type begins with.
	for _, s := range []string{"a : Int", ") x", "] x", "} x", "> x", "-> x", ".. x", ". x", ", x", ": x", "= x", "1 x", "0", "val", "module", "as", "import", "use"} {
		at := 0
		if s[0] == 'a' && s != "as" {
			at = 1
		}
		wantForm(t, s, at)
		wantForm(t, "List("+s, at+2)
		wantForm(t, "(Int, "+s, at+3)
		wantForm(t, "() -> "+s, at+3)
		wantForm(t, "{a: "+s, at+3)
		wantForm(t, "[A: Int, B: "+s, at+7)
	}
	wantForm(t, "List Int", 1)
	wantForm(t, "List", 1)
	wantForm(t, "List{Int}", 1)
	wantForm(t, "List()", 2)
	wantForm(t, "List(Int, Int)", 3)
	wantForm(t, "List(List)", 3)
	wantForm(t, "List.T", 1)
	wantForm(t, "(Int)", 3)
	wantForm(t, "(Int) Int", 3)
	wantForm(t, "(Int) = Int", 3)
	wantForm(t, "()", 2)
	wantForm(t, "(,) -> Int", 1)
	wantForm(t, "(Int,) -> Int", 3)
	wantForm(t, "(,Int) -> Int", 1)
	wantForm(t, "(Int Int) -> Int", 2)
	wantForm(t, "(x: Int) -> Int", 2)
	wantForm(t, "(Int] -> Int", 2)
	wantForm(t, "((Int)) -> Int", 4)
	wantForm(t, "(Int) -> )", 4)
}

func TestFormOfNames(t *testing.T) {
	wantForm(t, "{,}", 1)
	wantForm(t, "{a: Int,}", 5)
	wantForm(t, "{,a: Int}", 1)
	wantForm(t, "{a: Int b: Int}", 4)
	wantForm(t, "{a: Int,, b: Int}", 5)
	wantForm(t, "{a}", 2)
	wantForm(t, "{a, b: Int}", 2)
	wantForm(t, "{a = Int}", 2)
	wantForm(t, "{a:}", 3)
	wantForm(t, "{a: Int]", 4)
	wantForm(t, "{a: Int)", 4)
	wantForm(t, "{Int}", 1)
	wantForm(t, "{1: Int}", 1)
	wantForm(t, "{m.a: Int}", 2)
	wantForm(t, "[,]", 1)
	wantForm(t, "[A: Int,]", 5)
	wantForm(t, "[A]", 2)
	wantForm(t, "[A, B: Int]", 2)
	wantForm(t, "[A: Int}", 4)
	wantForm(t, "[A: Int B: Int]", 4)
	// A Record's names are small ones, a Variant's great ones, and none is a key or a type of the language's own.
	wantForm(t, "{A: Int}", 1)
	wantForm(t, "{a: Int, B: Int}", 5)
	wantForm(t, "[a: Int]", 1)
	wantForm(t, "[A: Int, b: Int]", 5)
	for _, s := range []string{"as", "alias", "dep", "hidden", "import", "is", "module", "opaque", "package", "use", "val", "version", "aB", strings.Repeat("a", 21), "Int", "List"} {
		wantForm(t, "{"+s+": Int}", 1)
		wantForm(t, "{b: Int, "+s+": Int}", 5)
	}
	for _, s := range []string{"Int", "Text", "Bool", "List", strings.Repeat("A", 21), "val", "a"} {
		wantForm(t, "["+s+": Int]", 1)
		wantForm(t, "[B: Int, "+s+": Int]", 5)
	}
	wantParse(t, "{"+strings.Repeat("a", 20)+": Int}", record(strings.Repeat("a", 20), intT))
	wantParse(t, "["+strings.Repeat("A", 20)+": Int]", variant(strings.Repeat("A", 20), intT))
	wantParse(t, "{int: Int, list: Int, let: Int}", record("int let list", intT, intT, intT))
}

// A record may be without names, a variant may not.
func TestWithoutNames(t *testing.T) {
	wantParse(t, "{}", api.Type{Kind: api.Record})
	wantParse(t, "List({})", list(record("")))
	wantParse(t, "{a: {}}", record("a", record("")))
	wantForm(t, "[]", 1)
	wantForm(t, "List([])", 3)
	wantForm(t, "[A: []]", 4)
	wantForm(t, "{a: []}", 4)
	wantForm(t, "{", 1)
	wantForm(t, "[", 1)
	wantForm(t, "{]", 1)
	wantForm(t, "[}", 1)
}

func TestFormOfLocals(t *testing.T) {
	wantForm(t, "m", 1)
	wantForm(t, "m T", 1)
	wantForm(t, "m.", 2)
	wantForm(t, "m..T", 1)
	wantForm(t, "m.t", 2)
	wantForm(t, "m.1", 2)
	wantForm(t, "m.Int", 2)
	wantForm(t, "m.List(Int)", 2)
	wantForm(t, "m.n.T", 2)
	wantForm(t, "val.T", 0)
	wantForm(t, "mX.T", 0)
	wantForm(t, strings.Repeat("m", 21)+".T", 0)
	wantForm(t, strings.Repeat("T", 21), 0)
	wantForm(t, "m."+strings.Repeat("T", 21), 2)
	wantForm(t, "List("+strings.Repeat("T", 300)+")", 2)
	wantParse(t, strings.Repeat("m", 20)+"."+strings.Repeat("T", 20), local(strings.Repeat("m", 20), strings.Repeat("T", 20)))
	// A name with a Mod ends the type, as one without does.
	wantSpot(t, "T.U", api.ErrForm, 1)
	wantSpot(t, "m.T.U", api.ErrForm, 3)
}

func TestFormOfOpens(t *testing.T) {
	words := strings.Fields("< p 1 m T >")
	for i := range words {
		// Each word left out, each told twice, and each other word in its place.
		out := slices.Delete(slices.Clone(words), i, i+1)
		if i > 0 {
			wantForm(t, strings.Join(out, " ")+" x", i)
			wantForm(t, strings.Join(slices.Insert(slices.Clone(words), i, "="), " "), i)
		}
		for _, other := range strings.Fields("> T p 1 val Int . , { =") {
			l := slices.Clone(words)
			l[i] = other
			l = l[:i+1]
			fits := other == words[i] || i == 3 && other == "p"
			if i > 0 && !fits {
				wantForm(t, strings.Join(l, " "), i)
			}
		}
		wantForm(t, strings.Join(words[:i], " "), i)
	}
	wantForm(t, "<P 1 m T>", 1)
	wantForm(t, "<p 1 M T>", 3)
	wantForm(t, "<p 1 m t>", 4)
	wantForm(t, "<p 1 m Int>", 4)
	wantForm(t, "<p 1 m.T>", 4)
	wantForm(t, "<p, 1 m T>", 2)
	wantForm(t, "<p 1.0 m T>", 3)
	wantForm(t, "<val 1 m T>", 1)
	wantForm(t, "<p 1 use T>", 3)
	wantForm(t, "<"+strings.Repeat("p", 21)+" 1 m T>", 1)
	wantForm(t, "<p 1 "+strings.Repeat("m", 21)+" T>", 3)
	wantForm(t, "<p 1 m "+strings.Repeat("T", 21)+">", 4)
	long := open(strings.Repeat("p", 20), api.MaxPart, strings.Repeat("m", 20), strings.Repeat("T", 20))
	wantParse(t, textOf(long), long)
}

func TestOpenNumbers(t *testing.T) {
	for _, n := range []int{1, 2, 9, 10, 99, 100, 255, 256, 65536, 99999999, 100000000, api.MaxPart - 1, api.MaxPart} {
		s := strconv.Itoa(n)
		wantParse(t, "<p "+s+" m T>", open("p", n, "m", "T"))
		wantForm(t, "<p 0"+s+" m T>", 2)
		wantForm(t, "<p 00"+s+" m T>", 2)
	}
	for _, s := range []string{
		"0", "00", "01", "000000001", "0999999999", "1000000000", "9999999999", "4294967297", "9223372036854775807", "9223372036854775808", "18446744073709551617",
		strings.Repeat("9", 300), strings.Repeat("0", 300) + "1", "1" + strings.Repeat("0", 19000),
	} {
		wantForm(t, "<p "+s+" m T>", 2)
		wantForm(t, "(Int, <p "+s+" m T>", 5)
	}
	// Texts that no number of a text has.
	for _, s := range []string{"", "+1", "-1", " 1", "1 ", "1_0", "0x1", "1e1", "1.0", "\uff11", "\u0661", "a", "1\x00"} {
		l := tokens(t, "<p 1 m T>")
		l[2].Text = s
		wantAtSpot(t, l, 0, api.ErrForm, 2)
	}
}

func TestTwice(t *testing.T) {
	wantAmiss(t, "{a: Int, a: Int}", api.ErrTwice, 5)
	wantAmiss(t, "{a: Int, a: Text}", api.ErrTwice, 5)
	wantAmiss(t, "{a: Int, b: Int, a: Int}", api.ErrTwice, 9)
	wantAmiss(t, "{b: Int, a: Int, a: Int}", api.ErrTwice, 9)
	wantAmiss(t, "{b: Int, a: Int, b: Int, a: Int}", api.ErrTwice, 9)
	wantAmiss(t, "[A: Int, A: Int]", api.ErrTwice, 5)
	wantAmiss(t, "[A: Int, B: Int, A: {}]", api.ErrTwice, 9)
	wantAmiss(t, "{a: {b: Int, b: Int}}", api.ErrTwice, 8)
	wantAmiss(t, "{a: {b: Int}, a: Int}", api.ErrTwice, 9)
	wantAmiss(t, "[A: [A: Int, A: Int]]", api.ErrTwice, 8)
	wantAmiss(t, "({a: Int, a: Int}) -> Int", api.ErrTwice, 6)
	wantAmiss(t, "() -> {a: Int, a: Int}", api.ErrTwice, 8)
	// One of another Record, or Variant, is no fault.
	wantParse(t, "{a: {a: Int}, b: {a: Int}}", record("a b", record("a", intT), record("a", intT)))
	wantParse(t, "{a: {b: Int}, b: Int}", record("a b", record("b", intT), intT))
	wantParse(t, "[A: [A: [A: Int]]]", variant("A", variant("A", variant("A", intT))))
	wantParse(t, "({a: Int}, {a: Int}) -> {a: Int}", fn(record("a", intT), record("a", intT), record("a", intT)))
	wantParse(t, "{a: Int, aa: Int, aaa: Int}", record("a aa aaa", intT, intT, intT))
	wantParse(t, "[A: Int, AA: Int, Aa: Int]", variant("A AA Aa", intT, intT, intT))
	// All places of two like names among 20.
	for _, k := range []int{api.Record, api.Variant} {
		for i := range 20 {
			for j := range i {
				o := wide(k, 20, intT)
				o.Names[i] = o.Names[j]
				wantSpot(t, textOf(o), api.ErrTwice, 1+4*i)
			}
		}
	}
}

// Where more than one thing is amiss: the first token counts, and of one token ErrForm, ErrLarge, ErrTwice in this order.
func TestFirst(t *testing.T) {
	wantForm(t, "{a: Int, A: Int, a: Int}", 5)
	wantAmiss(t, "{a: Int, a: Int, A: Int}", api.ErrTwice, 5)
	wantAmiss(t, "{a: Int, a Int}", api.ErrTwice, 5)
	wantAmiss(t, "{a: Int, a", api.ErrTwice, 5)
	wantAmiss(t, "{a: Int, a: }", api.ErrTwice, 5)
	wantForm(t, "{a: , a: Int}", 3)
	wantForm(t, "{a: {b: , b Int}, a: Int}", 6)
	wantAmiss(t, "{a: {b: Int, b: Int}, a: Int}", api.ErrTwice, 8)
	deepText := strings.Repeat("List(", 32)
	wantAmiss(t, deepText+"Int) ) ) x", api.ErrLarge, 64)
	wantAmiss(t, deepText+"{a: Int, a: Int}", api.ErrLarge, 64)
	wantAmiss(t, deepText+"[]", api.ErrLarge, 64)
	wantAmiss(t, deepText+"m", api.ErrLarge, 64)
	wantAmiss(t, deepText+"<", api.ErrLarge, 64)
	wantForm(t, deepText+")", 64)
	wantForm(t, deepText+"val", 64)
	wantForm(t, deepText+strings.Repeat("T", 21), 64)
	wantForm(t, deepText+"1", 64)
	wantForm(t, deepText, 64)
	// At 32 levels names may stand, and be amiss, but no type of theirs.
	deepText = strings.Repeat("List(", 31)
	wantAmiss(t, deepText+"{a: Int}", api.ErrLarge, 65)
	wantForm(t, deepText+"{a: }", 65)
	wantForm(t, deepText+"{a Int}", 64)
	wantForm(t, deepText+"{A: Int}", 63)
	wantForm(t, deepText+"[]", 63)
	wantAmiss(t, deepText+"() -> Int", api.ErrLarge, 65)
	wantAmiss(t, deepText+"(Int) -> Int", api.ErrLarge, 63)
	wantForm(t, deepText+"{} -> Int", 64)
	wantAmiss(t, strings.Repeat("{a: {b: Int}, b: ", 32)+"{a: Int, a: Int}", api.ErrLarge, 30*11+6)
	wantAmiss(t, strings.Repeat("{a: Int, b: ", 31)+"{a: Int, a: Int}", api.ErrLarge, 31*7+3)
	wantAmiss(t, strings.Repeat("{a: Int, b: ", 30)+"{a: Int, a: Int}", api.ErrTwice, 30*7+5)
}

// The 21st name, twice or no name at all.
func TestFirstAtManyNames(t *testing.T) {
	for _, k := range []int{api.Record, api.Variant} {
		o := wide(k, 21, intT)
		wantAmiss(t, textOf(o), api.ErrLarge, 81)
		o.Names[20] = o.Names[3]
		wantAmiss(t, textOf(o), api.ErrLarge, 81)
		o.Names[19] = o.Names[3]
		wantAmiss(t, textOf(o), api.ErrTwice, 77)
		o = wide(k, 21, intT)
		o.Names[20] = "val"
		wantForm(t, textOf(o), 81)
		o.Names[20] = strings.ToUpper(wide(k, 21, intT).Names[20])
		if k == api.Variant {
			o.Names[20] = strings.ToLower(o.Names[20])
		}
		wantForm(t, textOf(o), 81)
		// The comma ahead of it is no fault, and its end is.
		text := textOf(wide(k, 20, intT))
		wantForm(t, text[:len(text)-2]+" , }", 81)
		wantForm(t, text[:len(text)-2]+" ,", 81)
	}
	ints := strings.Repeat("Int, ", 20)
	wantAmiss(t, "("+ints+"Int", api.ErrLarge, 41)
	wantForm(t, "("+ints+")", 41)
	wantForm(t, "("+ints+"}", 41)
	wantForm(t, "("+ints+"val", 41)
	// A small name begins a type, whatever stands behind it.
	wantAmiss(t, "("+ints+"m", api.ErrLarge, 41)
	wantForm(t, "("+ints, 41)
	result := "(" + strings.TrimSuffix(ints, ", ") + ") -> "
	wantAmiss(t, result+"Int", api.ErrLarge, 42)
	wantAmiss(t, result+"m", api.ErrLarge, 42)
	wantForm(t, result+"val", 42)
	wantForm(t, result, 42)
	wantForm(t, strings.TrimSuffix(result, "-> "), 41)
}

// wantWritten holds a type that is too large just where a limit is passed, or else the type.
func wantWritten(t *testing.T, o api.Type) {
	t.Helper()
	w := written(o)
	s := strings.Join(w.words, " ")
	if w.large < 0 {
		wantParse(t, s, o)
		return
	}
	wantAmiss(t, s, api.ErrLarge, w.large)
}

func TestDepth(t *testing.T) {
	for _, wrap := range wraps() {
		for _, last := range []api.Type{intT, record(""), local("m", "T"), open("p", 1, "m", "T")} {
			for n := 28; n <= 36; n++ {
				wantWritten(t, deep(n, last, wrap))
			}
			wantParse(t, textOf(deep(32, last, wrap)), deep(32, last, wrap))
			for _, n := range []int{33, 34, 64, 65, 256 + 20, 400} {
				wantWritten(t, deep(n, last, wrap))
			}
			if _, err := expr.Parse(textOf(deep(33, last, wrap))); !errors.Is(err, api.ErrLarge) {
				t.Errorf("33 levels: %v", err)
			}
		}
	}
	wantAmiss(t, strings.Repeat("List(", 32)+"Int"+strings.Repeat(")", 32), api.ErrLarge, 64)
	wantAmiss(t, strings.Repeat("() -> ", 32)+"Int", api.ErrLarge, 96)
	wantParse(t, strings.Repeat("() -> ", 31)+"Int", deep(32, intT, func(s api.Type) api.Type { return fn(s) }))
	// Depth is the longest way, and ends with its brackets.
	wantWritten(t, fn(deep(31, intT, list), deep(31, intT, list), deep(31, intT, list)))
	wantWritten(t, fn(deep(31, intT, list), deep(32, intT, list), intT))
	wantWritten(t, record("a b", deep(31, intT, list), deep(32, intT, list)))
	// At a place within others it is counted from there on.
	l := tokens(t, strings.Repeat("List(", 40)+"Int"+strings.Repeat(")", 40))
	for i := range 40 {
		if i < 9 {
			wantAtSpot(t, l, 2*i, api.ErrLarge, 2*i+64)
			continue
		}
		wantAt(t, l, 2*i, deep(41-i, intT, list), len(l)-i)
	}
}

func TestSize(t *testing.T) {
	for _, k := range []int{api.Record, api.Func} {
		for n := 480; n <= 520; n++ {
			wantWritten(t, sized(k, n))
		}
		for _, n := range []int{1, 2, 20, 21, 22, 100, 255, 256, 257, 500, 501, 502, 756, 1000} {
			wantWritten(t, sized(k, n))
			if got, err := expr.Parse(textOf(sized(k, n))); n <= 500 && kind.Size(got) != n || n > 500 && !errors.Is(err, api.ErrLarge) {
				t.Errorf("%d types: %d, %v", n, kind.Size(got), err)
			}
		}
	}
	// The 501st is any type, and the last one.
	for _, last := range []api.Type{textT, record(""), list(intT), variant("A", intT), fn(intT), local("", "T"), local("m", "T"), open("p", 1, "m", "T")} {
		wantWritten(t, fn(sized(api.Func, 499), last))
		wantWritten(t, fn(sized(api.Func, 498), last))
		wantWritten(t, record("a b", sized(api.Record, 499), last))
	}
	words := written(fn(sized(api.Func, 499), intT)).words
	at := len(words) - 1
	wantAmiss(t, strings.Join(words, " "), api.ErrLarge, at)
	wantForm(t, strings.Join(words[:at], " ")+" )", at)
	wantForm(t, strings.Join(words[:at], " ")+" "+strings.Repeat("T", 21), at)
	wantForm(t, strings.Join(words[:at], " "), at)
	// The name ahead of the 501st is no fault, but twice.
	words = written(record("a b", sized(api.Record, 499), intT)).words
	at = len(words) - 2
	wantAmiss(t, strings.Join(words, " "), api.ErrLarge, at)
	words[at-2] = "a"
	wantAmiss(t, strings.Join(words, " "), api.ErrTwice, at-2)
}

func TestSubs(t *testing.T) {
	for _, k := range []int{api.Record, api.Variant, api.Func} {
		for n := 1; n <= 40; n++ {
			for _, s := range []api.Type{boolT, local("m", "T"), record("")} {
				wantWritten(t, wide(k, n, s))
				wantWritten(t, list(wide(k, n, s)))
				wantWritten(t, fn(intT, wide(k, n, s)))
			}
		}
		for _, n := range []int{256, 257, 276, 300} {
			wantWritten(t, wide(k, n, intT))
		}
		if got, err := expr.Parse(textOf(wide(k, 20, intT))); err != nil || len(got.Subs) != 20 {
			t.Errorf("%d Subs, %v", len(got.Subs), err)
		}
		if _, err := expr.Parse(textOf(wide(k, 21, intT))); !errors.Is(err, api.ErrLarge) {
			t.Errorf("21 Subs: %v", err)
		}
	}
	wantAmiss(t, textOf(wide(api.Record, 21, intT)), api.ErrLarge, 81)
	wantAmiss(t, textOf(wide(api.Variant, 21, intT)), api.ErrLarge, 81)
	// A function's result counts: 19 parameters and it, or it is the 21st, or a parameter is.
	ints := strings.TrimSuffix(strings.Repeat("Int, ", 19), ", ")
	wantParse(t, "("+ints+") -> Int", fn(many(20, intT)...))
	wantAmiss(t, "("+ints+", Int) -> Int", api.ErrLarge, 42)
	wantAmiss(t, "("+ints+", Int, Int) -> Int", api.ErrLarge, 41)
	wantParse(t, "("+ints+") -> ("+ints+") -> Int", fn(append(many(19, intT), fn(many(20, intT)...))...))
}

func TestPlaces(t *testing.T) {
	l := tokens(t, "val f : (Int, m.T) -> {b: [A: <p 1 m U>], a: List(Bool)} val g : Int")
	for _, i := range []int{-1, -2, -len(l), math.MinInt, math.MinInt + 1, -1 << 32, len(l) + 1, len(l) + 2, 2 * len(l), 1 << 32, math.MaxInt - 1, math.MaxInt} {
		wantAtSpot(t, l, i, api.ErrForm, i)
		wantAtSpot(t, nil, i, api.ErrForm, i)
	}
	wantAtSpot(t, l, len(l), api.ErrForm, len(l))
	wantAtSpot(t, nil, 0, api.ErrForm, 0)
	wantAtSpot(t, []api.Token{}, 0, api.ErrForm, 0)
	wantAtSpot(t, nil, 1, api.ErrForm, 1)
	// What lies behind the end of the tokens, in their memory, is none of them.
	wantAtSpot(t, l[:len(l)-1], len(l)-1, api.ErrForm, len(l)-1)
	wantAtSpot(t, l[:4], 3, api.ErrForm, 4)
	for i := range l {
		check(t, l, i)
		for end := i; end <= len(l); end++ {
			check(t, l[:end], i)
		}
	}
	wantAt(t, l, 4, intT, 5)
	wantAt(t, l, 6, local("m", "T"), 9)
	wantAt(t, l, 8, local("", "T"), 9)
	wantAt(t, l, len(l)-1, intT, len(l))
}

// It ends as soon as the type ends: what stands behind is not looked at.
func TestBehind(t *testing.T) {
	for _, s := range []string{"Int", "m.T", "T", "{}", "{a: Int}", "[A: Int]", "List(Int)", "() -> Int", "(Int) -> T", "<p 1 m T>"} {
		l := tokens(t, s)
		want, err := expr.Parse(s)
		if err != nil {
			t.Errorf("Parse(%q): %v", s, err)
		}
		for _, more := range []string{"Int", ")", "(", "(Int)", "->", "-> Int", ".", ". T", "..", ",", "}", ">", "val", "x", "1", "= 1", ": Int", "[", "{ }"} {
			wantAt(t, slices.Concat(l, tokens(t, more)), 0, want, len(l))
			wantSpot(t, s+" "+more, api.ErrForm, len(l))
		}
		wantAt(t, append(slices.Clone(l), api.Token{}, api.Token{Kind: -1}), 0, want, len(l))
	}
}

// A type that isn't ended is at fault behind all tokens.
func TestCutOff(t *testing.T) {
	for _, s := range []string{
		"List(Int)", "m.T", "<p 1 m T>", "(Int, m.T) -> {b: [A: <p 1 m U>, B: {}], a: List(Bool)}", "() -> () -> Int", "((T) -> T) -> List(List(m.T))", "{a: Int, b: {c: Int}}", "[A: Int, B: [C: Int]]",
	} {
		l := tokens(t, s)
		for n := range l {
			wantAtSpot(t, l[:n], 0, api.ErrForm, n)
			wantSpot(t, lex.Join(l[:n]), api.ErrForm, n)
		}
	}
}

func TestLexErrors(t *testing.T) {
	for s, at := range map[string]int{"$": 0, "Int $": 4, "-": 0, "(Int) - > Int": 6, "{a: Int}\r": 8, "\u00c9": 0, "{a; Int}": 2, ") $": 2, "val -": 4, "\"Int\"": 0, "List[\xff]": 5, "{a: Int, a: Int} %": 17} {
		if got, err := expr.Parse(s); !isSpot(err, api.ErrForm, at) || !zero(got) {
			t.Errorf("Parse(%q) = %v, %v; want lex's ErrForm at byte %d", s, got.Kind, err, at)
		}
	}
	full := "Int" + strings.Repeat(" ", api.MaxText-3)
	wantParse(t, full, intT)
	wantParse(t, "#"+strings.Repeat("x", api.MaxText-5)+"\nInt", intT)
	for _, s := range []string{full + " ", full + "\n", full + "#", " " + full, strings.Repeat("a", 20001), strings.Repeat("$", 20001), strings.Repeat("(", 1<<20)} {
		if got, err := expr.Parse(s); err != api.ErrLarge || !zero(got) {
			t.Errorf("Parse of %d bytes = %v, %v; want lex's ErrLarge", len(s), got.Kind, err)
		}
	}
	wantSpot(t, "", api.ErrForm, 0)
	wantSpot(t, " \n\t", api.ErrForm, 0)
	wantSpot(t, "# Int", api.ErrForm, 0)
}

// Texts of many thousands of brackets, and tokens whose types would be of thousands of levels.
func TestHuge(t *testing.T) {
	for s, at := range map[string]int{"List(": 32 * 2, "(": 32, "{a:": 32 * 3, "[A:": 32 * 3, "()->": 32 * 3, "(Int,": 31*3 + 1, "{a:Int,b:": 31*7 + 3, "({a:Int})->": 30*8 + 4} {
		text := strings.Repeat(s, (api.MaxText-10)/len(s))
		wantAmiss(t, text, api.ErrLarge, at)
		wantAmiss(t, text+"Int", api.ErrLarge, at)
	}
	for _, s := range []string{"{", "[", ")", "}", "<", "List", "->", "a"} {
		l := slices.Repeat(tokens(t, s), 20000/len(s))
		check(t, l, 0)
		check(t, l, len(l)/2)
		check(t, l, len(l)-1)
	}
	for _, s := range []string{"List(", "(", "{a:", "[A:", "()->", "(Int,", "{a:Int,b:"} {
		l := slices.Repeat(tokens(t, s), 300000)
		check(t, l, 0)
		check(t, l, len(l)-3)
	}
	flat := slices.Concat(tokens(t, "(Int"), slices.Repeat(tokens(t, ", Int"), 500000))
	wantAtSpot(t, flat, 0, api.ErrLarge, 41)
	flat = slices.Concat(tokens(t, "{a: Int"), slices.Repeat(tokens(t, ", a: Int"), 500000))
	wantAtSpot(t, flat, 0, api.ErrTwice, 5)
}

// Tokens that no text has: a right text of another Kind, a right Kind of another text.
func TestTokensOfNoText(t *testing.T) {
	for _, s := range []string{"(Int, m.T) -> {b: [A: <p 1 m U>, B: {}], a: List(Bool)}", "Text", "T", "m.T", "<p 1 m T>", "List(Int)", "{}", "() -> Int"} {
		l := tokens(t, s)
		for i := range l {
			for _, k := range []int{0, -1, 5, 6, 9, 100, 257, low, up, num, sign, 1 << 32, 1<<32 + 1, math.MaxInt, math.MinInt} {
				if k == l[i].Kind {
					continue
				}
				o := slices.Clone(l)
				o[i].Kind = k
				wantAtSpot(t, o, 0, api.ErrForm, i)
			}
			for _, k := range []int{0, low, up, num, sign} {
				for _, text := range []string{"", " ", "int", "Int ", " Int", "INT", "{ }", "->>", "-", "a b", "a.T", "\x00", "\xff", "\u00e9", "1a", "A_b", "a-b", "()", "List(", strings.Repeat("T", 1000), strings.Repeat("9", 1000), "Int", "T", "m", "1", "{", ".", ".."} {
					o := slices.Clone(l)
					o[i] = api.Token{Kind: k, At: o[i].At, Text: text}
					check(t, o, 0)
				}
			}
		}
	}
}

// They can't stand there, either, where a type would be too deep.
func TestTokensOfNoTextTooDeep(t *testing.T) {
	outer := tokens(t, strings.Repeat("List(", 32))
	for text, k := range map[string]int{"{": sign, "[": sign, "(": sign, "<": sign, "Int": up, "List": up, "T": up, "m": low} {
		for _, other := range []int{0, -1, 5, low, up, num, sign} {
			code := api.ErrForm
			if other == k {
				code = api.ErrLarge
			}
			wantAtSpot(t, append(slices.Clone(outer), api.Token{Kind: other, Text: text}), 0, code, 64)
		}
	}
}

// A token's own place is not looked at.
func TestTokensPlaces(t *testing.T) {
	const s = "(Int, m.T) -> {b: [A: <p 1 m U>], a: List(Bool)}"
	want, err := expr.Parse(s)
	if err != nil {
		t.Fatal(err)
	}
	for _, place := range []func(int) int{func(int) int { return 0 }, func(i int) int { return -i }, func(i int) int { return 1000 - 7*i }, func(int) int { return math.MinInt }, func(int) int { return math.MaxInt }} {
		l := tokens(t, s)
		for i := range l {
			l[i].At = place(i)
		}
		wantAt(t, l, 0, want, len(l))
		l[8].Text = "q"
		wantAtSpot(t, l, 0, api.ErrForm, 8)
	}
}

// P5.3: the tokens stay as they are, what lies behind them in their memory too.
func TestStays(t *testing.T) {
	for _, s := range []string{"{c: Int, b: [B: {}, A: m.T], a: <p 1 m T>}", "{b: Int, a: Int, b: Int}", "(Int, Text) -> )", "", "{b: Int", "{b: Int, a: Text} x y"} {
		all := slices.Concat(tokens(t, "val f :"), tokens(t, s), tokens(t, "val g : {z: Int, y: Int}"))
		was := slices.Clone(all)
		for i := -1; i <= len(all)+1; i++ {
			expr.At(all, i)
			expr.At(all[:3+len(tokens(t, s))], i)
		}
		if !slices.Equal(all, was) {
			t.Errorf("the tokens of %q were changed", s)
		}
	}
}

// shares tells whether a piece, of one byte at least, lies in the memory of a text.
func shares(s, piece string) bool {
	from := uintptr(unsafe.Pointer(unsafe.StringData(s)))
	at := uintptr(unsafe.Pointer(unsafe.StringData(piece)))
	return from <= at && at < from+uintptr(len(s))
}

// texts are all texts of a type.
func texts(t api.Type) []string {
	l := append([]string{t.Pkg, t.Mod, t.Name}, t.Names...)
	for _, s := range t.Subs {
		l = append(l, texts(s)...)
	}
	return slices.DeleteFunc(l, func(s string) bool { return s == "" })
}

// What is told is new memory: texts, too.
func TestNewTexts(t *testing.T) {
	s := strings.Clone("{bb: [Bb: mm.Tt, Aa: Uu], aa: <pp 12 nn Vv>}")
	l := tokens(t, s)
	whole, _, err := expr.At(l, 0)
	if err != nil || len(texts(whole)) != 10 {
		t.Fatal(texts(whole), err)
	}
	parsed, err := expr.Parse(s)
	if err != nil {
		t.Fatal(err)
	}
	for _, name := range append(texts(whole), texts(parsed)...) {
		if shares(s, name) {
			t.Errorf("%s lies in the text", name)
		}
		for _, k := range l {
			if shares(k.Text, name) {
				t.Errorf("%s lies in the token %v", name, k)
			}
		}
	}
}

// spoilLists changes all lists of a type, and what lies behind them in their memory.
func spoilLists(t api.Type) {
	for i := range t.Names {
		t.Names[i] = "spoilt"
	}
	for _, s := range t.Subs {
		spoilLists(s)
	}
	for i := range t.Subs {
		t.Subs[i] = api.Type{Kind: -1}
	}
	for i, n := range t.Names[len(t.Names):cap(t.Names)] {
		t.Names[len(t.Names):cap(t.Names)][i] = n + "spoilt"
	}
	for i := range t.Subs[len(t.Subs):cap(t.Subs)] {
		t.Subs[len(t.Subs):cap(t.Subs)][i].Kind = -1
	}
}

// No two lists share memory: not of two answers, and not of one.
func TestNewLists(t *testing.T) {
	const s = "{c: {b: Int, a: Text}, b: {b: Int, a: Text}, a: ([B: Int, A: Int], {}) -> List({x: {}, w: Int})}"
	l := tokens(t, s)
	one, _, errOne := expr.At(l, 0)
	two, _, errTwo := expr.At(l, 0)
	was := clone(two)
	if errOne != nil || errTwo != nil {
		t.Fatal(errOne, errTwo)
	}
	spoilLists(one)
	if !sameType(two, was) {
		t.Error("two answers share a list")
	}
	for i := range two.Subs {
		three, _, _ := expr.At(l, 0)
		spoilLists(three.Subs[i])
		for j := range three.Subs {
			if j != i && !sameType(three.Subs[j], was.Subs[j]) || !slices.Equal(three.Names, was.Names) {
				t.Errorf("Sub %d of an answer shares a list with Sub %d, or with the whole", i, j)
			}
		}
	}
	for i := range l {
		l[i] = api.Token{Kind: -1, Text: "spoilt"}
	}
	if !sameType(two, was) {
		t.Error("an answer shares memory with the tokens")
	}
}

// due is what the model waits for next: each is one token.
type due struct {
	what       string
	depth, nth int
	small      bool            // of names: whether they are small ones
	seen       map[string]bool // of names: those that are there
}

var (
	smallName = regexp.MustCompile(`\A[a-z][a-z0-9]{0,19}\z`)
	greatName = regexp.MustCompile(`\A[A-Z][A-Za-z0-9]{0,19}\z`)
	smallNone = regexp.MustCompile(`\A(as|alias|dep|hidden|import|is|module|opaque|package|use|val|version)\z`)
	greatNone = regexp.MustCompile(`\A(Int|Text|Bool|List)\z`)
	number    = regexp.MustCompile(`\A[1-9][0-9]{0,8}\z`)
)

func isSmall(k api.Token) bool {
	return k.Kind == low && smallName.MatchString(k.Text) && !smallNone.MatchString(k.Text)
}

func isGreat(k api.Token) bool {
	return k.Kind == up && greatName.MatchString(k.Text) && !greatNone.MatchString(k.Text)
}

func isSign(k api.Token, s string) bool { return k.Kind == sign && k.Text == s }

// begin is what is due behind a type's first token; false, if it is none.
func (d due) begin(k api.Token) ([]due, bool) {
	sub := due{what: "type", depth: d.depth + 1, nth: 1}
	names := due{depth: d.depth + 1, nth: 1, seen: map[string]bool{}}
	switch {
	case isSmall(k):
		return []due{{what: "."}, {what: "great"}}, true
	case isGreat(k), k.Kind == up && slices.Contains([]string{"Int", "Text", "Bool"}, k.Text):
		return nil, true
	case k.Kind == up && k.Text == "List":
		return []due{{what: "("}, sub, {what: ")"}}, true
	case isSign(k, "{"):
		names.what, names.small = "name or end", true
		return []due{names}, true
	case isSign(k, "["):
		names.what = "name"
		return []due{names}, true
	case isSign(k, "("):
		sub.what = "type or end"
		return []due{sub}, true
	case isSign(k, "<"):
		return []due{{what: "small"}, {what: "number"}, {what: "small"}, {what: "great"}, {what: ">"}}, true
	}
	return nil, false
}

// take is what is due behind a token, or what is amiss of it.
func (d due) take(k api.Token, types *int) ([]due, api.Code) {
	end := "]"
	if d.small {
		end = "}"
	}
	result := due{what: "type", depth: d.depth, nth: d.nth}
	switch d.what {
	case "name or end", "more names":
		if isSign(k, end) {
			return nil, 0
		}
	case "type or end", "more types":
		if isSign(k, ")") {
			return []due{{what: "->"}, result}, 0
		}
	}
	more := d
	switch d.what {
	case "type", "type or end":
		next, ok := d.outer().begin(k)
		if !ok {
			return nil, api.ErrForm
		}
		*types++
		if d.depth > 32 || *types > 500 || d.nth > 20 {
			return nil, api.ErrLarge
		}
		if d.what == "type or end" {
			next = append(next, due{what: "more types", depth: d.depth, nth: 2})
		}
		return next, 0
	case "more types":
		if isSign(k, ",") {
			more.nth++
			return []due{result, more}, 0
		}
	case "name", "name or end":
		return d.takeName(k)
	case "more names":
		if isSign(k, ",") {
			more.what = "name"
			return []due{more}, 0
		}
	case "small":
		if isSmall(k) {
			return nil, 0
		}
	case "great":
		if isGreat(k) {
			return nil, 0
		}
	case "number":
		if k.Kind == num && number.MatchString(k.Text) {
			return nil, 0
		}
	default:
		if isSign(k, d.what) {
			return nil, 0
		}
	}
	return nil, api.ErrForm
}

// outer is d as the type whose first token is asked.
func (d due) outer() due { return due{what: "type", depth: d.depth, nth: d.nth} }

func (d due) takeName(k api.Token) ([]due, api.Code) {
	switch {
	case d.small && !isSmall(k), !d.small && !isGreat(k):
		return nil, api.ErrForm
	case d.nth > 20:
		return nil, api.ErrLarge
	case d.seen[k.Text]:
		return nil, api.ErrTwice
	}
	d.seen[k.Text] = true
	more := d
	more.what = "more names"
	more.nth++
	return []due{{what: ":"}, {what: "type", depth: d.depth, nth: d.nth}, more}, 0
}

// model reads the chapter token by token: where the type ends, or what is amiss, and where.
func model(l []api.Token, i int) (end int, code api.Code, at int) {
	if i < 0 || i > len(l) {
		return 0, api.ErrForm, i
	}
	types := 0
	all := []due{{what: "type", depth: 1, nth: 1}}
	for ; len(all) > 0; i++ {
		d := all[len(all)-1]
		all = all[:len(all)-1]
		var k api.Token
		if i < len(l) {
			k = l[i]
		}
		next, code := d.take(k, &types)
		if code != 0 {
			return 0, code, i
		}
		slices.Reverse(next)
		all = append(all, next...)
	}
	return i, 0, 0
}

// built is the type of tokens that are one's, just those: cut at their brackets and commas.
func built(l []api.Token) api.Type {
	last := len(l) - 1
	switch l[0].Text {
	case "Int", "Text", "Bool":
		return api.Type{Kind: map[string]int{"Int": api.Int, "Text": api.Text, "Bool": api.Bool}[l[0].Text]}
	case "List":
		return list(built(l[2:last]))
	case "{", "[":
		return builtNamed(l)
	case "(":
		n := closing(l)
		t := fn()
		for _, part := range split(l[1:n]) {
			t.Subs = append(t.Subs, built(part))
		}
		t.Subs = append(t.Subs, built(l[n+2:]))
		return t
	case "<":
		n, _ := strconv.Atoi(l[2].Text)
		return open(l[1].Text, n, l[3].Text, l[4].Text)
	}
	if len(l) == 3 {
		return local(l[0].Text, l[2].Text)
	}
	return local("", l[0].Text)
}

func builtNamed(l []api.Token) api.Type {
	t := api.Type{Kind: map[string]int{"{": api.Record, "[": api.Variant}[l[0].Text]}
	of := map[string]api.Type{}
	for _, part := range split(l[1 : len(l)-1]) {
		t.Names = append(t.Names, part[0].Text)
		of[part[0].Text] = built(part[2:])
	}
	slices.Sort(t.Names)
	for _, n := range t.Names {
		t.Subs = append(t.Subs, of[n])
	}
	return t
}

// level is how many brackets a token opens.
func level(k api.Token) int {
	switch k.Text {
	case "(", "{", "[":
		return 1
	case ")", "}", "]":
		return -1
	}
	return 0
}

// closing is the place of the bracket that closes the first one.
func closing(l []api.Token) int {
	n := 0
	return slices.IndexFunc(l, func(k api.Token) bool {
		n += level(k)
		return n == 0
	})
}

// split cuts tokens at the commas that are in no brackets.
func split(l []api.Token) [][]api.Token {
	if len(l) == 0 {
		return nil
	}
	parts := [][]api.Token{nil}
	n := 0
	for _, k := range l {
		n += level(k)
		if n == 0 && k.Text == "," {
			parts = append(parts, nil)
			continue
		}
		parts[len(parts)-1] = append(parts[len(parts)-1], k)
	}
	return parts
}

// check holds tokens against the model.
func check(t *testing.T, l []api.Token, i int) api.Code {
	t.Helper()
	end, code, at := model(l, i)
	if code != 0 {
		wantAtSpot(t, l, i, code, at)
		return code
	}
	wantAt(t, l, i, built(l[i:end]), end)
	return 0
}

// All short lists of tokens.
func TestAllShort(t *testing.T) {
	for _, words := range []struct {
		all  string
		most int
	}{
		{"Int T a . List ( ) -> , { } : [ ] < > 1 val", 4}, {"( ) -> Int ,", 7}, {"{ } a : Int , b", 7}, {"[ ] A : Int , B", 6}, {"< p 1 T >", 6}, {"List ( ) Int m . T", 6},
	} {
		alphabet := tokens(t, words.all)
		found := 0
		var walk func(l []api.Token)
		walk = func(l []api.Token) {
			if check(t, l, 0) == 0 {
				found++
			}
			if len(l) == words.most {
				return
			}
			for _, k := range alphabet {
				walk(append(l, k))
			}
		}
		walk(make([]api.Token, 0, words.most))
		if found == 0 {
			t.Errorf("no types of %s", words.all)
		}
	}
}

// anyType is a type that may be but for its size, the same ones at each run, of at most so many levels.
func anyType(r *rand.Rand, levels int) api.Type {
	smalls, greats := strings.Fields("a b c d e x1 y2 list json aa ab"), strings.Fields("A B C T U Some None X1 AA Aa Zz")
	pick := func(l []string) string { return l[r.Intn(len(l))] }
	kinds := []int{api.Int, api.Text, api.Bool, api.Local, api.Open, api.List, api.Record, api.Variant, api.Func}
	if levels == 1 {
		kinds = kinds[:5]
	}
	o := api.Type{Kind: kinds[r.Intn(len(kinds))]}
	n := 0
	switch o.Kind {
	case api.List:
		n = 1
	case api.Record, api.Variant:
		from := smalls
		if o.Kind == api.Variant {
			from = greats
		}
		for range r.Intn(5) + o.Kind - api.Record {
			o.Names = append(o.Names, pick(from))
		}
		slices.Sort(o.Names)
		o.Names = slices.Compact(o.Names)
		n = len(o.Names)
	case api.Func:
		n = 1 + r.Intn(4)
	case api.Local:
		o.Name = pick(greats)
		if r.Intn(2) == 0 {
			o.Mod = pick(smalls)
		}
	case api.Open:
		o = open(pick(smalls), 1+r.Intn(1000), pick(smalls), pick(greats))
	}
	for range n {
		o.Subs = append(o.Subs, anyType(r, levels-1))
	}
	return o
}

// shuffled is a type with its names, at all levels, in any order.
func shuffled(r *rand.Rand, t api.Type) api.Type {
	t = clone(t)
	for i, s := range t.Subs {
		t.Subs[i] = shuffled(r, s)
	}
	if len(t.Names) > 0 {
		r.Shuffle(len(t.Names), func(i, j int) {
			t.Names[i], t.Names[j] = t.Names[j], t.Names[i]
			t.Subs[i], t.Subs[j] = t.Subs[j], t.Subs[i]
		})
	}
	return t
}

// P5.4: a type's text is parsed as it, and P5.3: with its names in another order, too.
func TestPrintedIsParsed(t *testing.T) {
	r := rand.New(rand.NewSource(5))
	for range 10000 {
		o := anyType(r, 1+r.Intn(7))
		if !kind.May(o) {
			wantWritten(t, o)
			continue
		}
		text, err := kind.Print(o)
		if err != nil {
			t.Fatal(err)
		}
		wantParse(t, text, o)
		got, _ := expr.Parse(text)
		if again, _ := kind.Print(got); again != text {
			t.Errorf("%q is printed as %q", text, again)
		}
		wantParse(t, textOf(shuffled(r, o)), o)
	}
}

// A type may be, and its text be too long for lex.
func TestLongTexts(t *testing.T) {
	long := open(strings.Repeat("p", 20), api.MaxPart, strings.Repeat("m", 20), strings.Repeat("T", 20))
	for n := 1; n <= 20; n++ {
		o := wide(api.Variant, 20, wide(api.Record, n, long))
		text, err := kind.Print(o)
		if !kind.May(o) || err != nil {
			break
		}
		if len(text) <= api.MaxText {
			wantParse(t, text, o)
			continue
		}
		if got, err := expr.Parse(text); err != api.ErrLarge || !zero(got) {
			t.Errorf("%d bytes: %v", len(text), err)
		}
	}
	// Exactly MaxText bytes, and one more.
	o := wide(api.Variant, 20, wide(api.Record, 11, long))
	text, err := kind.Print(o)
	if err != nil || len(text) > api.MaxText {
		t.Fatal(len(text), err)
	}
	wantParse(t, text+strings.Repeat(" ", api.MaxText-len(text)), o)
	if got, err := expr.Parse(text + strings.Repeat(" ", api.MaxText-len(text)+1)); err != api.ErrLarge || !zero(got) {
		t.Error(err)
	}
}

// spoilt is tokens with one thing changed.
func spoilt(r *rand.Rand, l []api.Token, others []api.Token) []api.Token {
	i, j := r.Intn(len(l)), r.Intn(len(l))
	l = slices.Clone(l)
	other := others[r.Intn(len(others))]
	switch r.Intn(6) {
	case 0:
		l[i] = other
	case 1:
		l = slices.Insert(l, i, other)
	case 2:
		l = slices.Delete(l, i, i+1)
	case 3:
		l[i], l[j] = l[j], l[i]
	case 4:
		l = l[:i]
	case 5:
		// Most such ones are a name that another one is already.
		same := slices.DeleteFunc(slices.Clone(l), func(k api.Token) bool { return k.Kind != l[i].Kind })
		l[i].Text = same[r.Intn(len(same))].Text
	}
	return l
}

func TestManyTokens(t *testing.T) {
	r := rand.New(rand.NewSource(55))
	others := append(tokens(t, "Int T a . List ( ) -> , { } : [ ] < > 1 val .. = 0 01 A B b"), api.Token{}, api.Token{Kind: 7, Text: "Int"}, api.Token{Kind: up}, api.Token{Kind: sign, Text: "T"})
	told := map[api.Code]int{}
	for range 40000 {
		l := tokens(t, textOf(shuffled(r, anyType(r, 2+r.Intn(4)))))
		for range 1 + r.Intn(2) {
			if len(l) > 0 {
				l = spoilt(r, l, others)
			}
		}
		told[check(t, l, r.Intn(len(l)+1)*r.Intn(2))]++
	}
	for _, c := range []api.Code{0, api.ErrForm, api.ErrTwice} {
		if told[c] < 20 {
			t.Errorf("error %d was told %d times", c, told[c])
		}
	}
}

// Large types with something amiss, or a limit passed, at any place.
func TestManyLarge(t *testing.T) {
	r := rand.New(rand.NewSource(555))
	others := tokens(t, "Int T a . List ( ) -> , { } : [ ] < > 1 val")
	told := map[api.Code]int{}
	for range 1500 {
		o := sized([]int{api.Record, api.Func}[r.Intn(2)], 490+r.Intn(20))
		switch r.Intn(4) {
		case 0:
			o = deep(29+r.Intn(6), anyType(r, 3), wraps()[r.Intn(len(wraps()))])
		case 1:
			o = wide([]int{api.Record, api.Variant, api.Func}[r.Intn(3)], 19+r.Intn(3), anyType(r, 2))
		}
		w := written(o)
		l := tokens(t, strings.Join(w.words, " "))
		if r.Intn(2) == 0 {
			l = spoilt(r, l, others)
		}
		told[check(t, l, 0)]++
	}
	for _, c := range []api.Code{0, api.ErrForm, api.ErrLarge} {
		if told[c] < 20 {
			t.Errorf("error %d was told %d times", c, told[c])
		}
	}
}
