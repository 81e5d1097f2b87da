package value

import (
	"math"
	"math/rand"
	"reflect"
	"slices"
	"strconv"
	"strings"
	"testing"

	"doublet/api"
)

func boolean(b bool) api.Value                { return api.Value{Kind: api.Bool, B: b} }
func number(n api.Num) api.Value              { return api.Value{Kind: api.Number, N: n} }
func digits(s string) api.Value               { return number(api.Num{Digits: s}) }
func text(s string) api.Value                 { return api.Value{Kind: api.String, S: s} }
func array(l ...api.Value) api.Value          { return api.Value{Kind: api.Array, L: l} }
func object(l ...api.Member) api.Value        { return api.Value{Kind: api.Object, M: l} }
func member(k string, v api.Value) api.Member { return api.Member{Key: k, V: v} }

// nest puts v into so many Arrays, or Objects, or both by turns.
func nest(v api.Value, levels int, kinds ...int) api.Value {
	for i := range levels {
		if kinds[i%len(kinds)] == api.Array {
			v = array(v)
		} else {
			v = object(member("k", v))
		}
	}
	return v
}

// clone is v in new memory.
func clone(v api.Value) api.Value {
	v.L = slices.Clone(v.L)
	for i := range v.L {
		v.L[i] = clone(v.L[i])
	}
	v.M = slices.Clone(v.M)
	for i := range v.M {
		v.M[i].V = clone(v.M[i].V)
	}
	return v
}

// wrapped are values with v in them, in every place.
func wrapped(v api.Value) []api.Value {
	null, one := api.Value{}, digits("1")
	return []api.Value{
		v,
		array(v), array(v, one), array(one, v), array(null, v, null),
		object(member("a", v)), object(member("a", v), member("b", one)),
		object(member("a", one), member("b", v)), object(member("a", one), member("b", v), member("c", null)),
		array(array(v)), array(object(member("", v))), object(member("x", array(one, v))),
		object(member("x", object(member("y", v)))), nest(v, 40, api.Array, api.Object),
	}
}

func wantMay(t *testing.T, v api.Value, want bool) {
	t.Helper()
	for i, w := range wrapped(v) {
		if May(w) != want {
			t.Errorf("May(%+.200v), in place %d, is %v", v, i, !want)
		}
	}
}

// edgeValues are all unlike, and all may be.
func edgeValues() []api.Value {
	sixty := strings.Repeat("9", api.MaxDigits)
	l := []api.Value{
		{}, boolean(false), boolean(true),
		digits(""), digits("1"), number(api.Num{Neg: true, Digits: "1"}), digits("2"), digits("11"), digits("101"),
		number(api.Num{Digits: "1", Exp: 1}), number(api.Num{Digits: "1", Exp: -1}), number(api.Num{Neg: true, Digits: "1", Exp: 1}),
		number(api.Num{Digits: "1", Exp: api.MaxExp}), number(api.Num{Digits: "1", Exp: -api.MaxExp}),
		digits(sixty), number(api.Num{Neg: true, Digits: sixty, Exp: -api.MaxExp}), number(api.Num{Digits: sixty, Exp: api.MaxExp}),
		digits(sixty[1:] + "8"), digits("8" + sixty[1:]),
		text(""), text("\x00"), text("1"), text("a"), text("A"), text("ab"), text("b"), text("null"), text("false"), text("[]"),
		text("\u00e9"), text("e\u0301"), text("\ufffd"), text("\ufeff"), text("\uffff"), text("\U00010000"), text("\U0010ffff"),
		text("\ud7ff"), text("\ue000"), text("\x7f"), text("\u0080"), text("\u07ff\u0800"), text(strings.Repeat("x", 30000)),
		array(), object(),
	}
	for _, v := range slices.Clone(l[:10]) {
		l = append(l, array(v), array(v, v), object(member("a", v)), object(member("b", v)), object(member("", v)), array(array(v)))
	}
	one, two := digits("1"), digits("2")
	return append(l,
		array(one, two), array(two, one), array(one, two, one), array(array(one), two), array(one, array(two)), array(array(one, two)),
		array(array()), array(array(), array()), array(object()), array(array(array())),
		object(member("a", array())), object(member("a", object())), object(member("a", object(member("a", object())))),
		object(member("a", one), member("b", two)), object(member("a", two), member("b", one)), object(member("a", one), member("c", two)),
		object(member("", one), member("a", two)), object(member("a", one), member("b", two), member("c", two)),
		nest(one, 40, api.Array), nest(one, 41, api.Array), nest(two, 40, api.Array), nest(one, 40, api.Object), nest(one, 40, api.Array, api.Object),
	)
}

// P3.1, May: values of each Kind, wherever they stand.
func TestMayEdges(t *testing.T) {
	for _, v := range edgeValues() {
		wantMay(t, v, true)
	}
}

// P3.1, May: Kinds are 0 to 5.
func TestMayKinds(t *testing.T) {
	for k := -300; k <= 300; k++ {
		wantMay(t, api.Value{Kind: k}, 0 <= k && k <= 5)
	}
	for _, k := range []int{math.MinInt, math.MaxInt, 1 << 16, 1 << 32, 1<<32 + 4, -1 << 32} {
		wantMay(t, api.Value{Kind: k}, false)
	}
}

// P3.1, May: a value has nothing but what its Kind means.
func TestMayNothingElse(t *testing.T) {
	for _, v := range []api.Value{{}, boolean(true), boolean(false), digits("1"), digits(""), text("a"), text(""), array(api.Value{}), array(), object(member("a", api.Value{})), object()} {
		wantMay(t, v, true)
		more := map[int]api.Value{}
		for k := api.Bool; k <= api.Object; k++ {
			more[k] = v
		}
		for k, w := range more {
			switch k {
			case api.Bool:
				w.B = true
			case api.Number:
				w.N = api.Num{Digits: "1"}
			case api.String:
				w.S = "a"
			case api.Array:
				w.L = []api.Value{{}}
			case api.Object:
				w.M = []api.Member{{Key: "a"}}
			}
			wantMay(t, w, k == v.Kind)
		}
		for _, n := range []api.Num{{Neg: true}, {Exp: 1}, {Digits: "0"}} {
			w := v
			w.N = n
			wantMay(t, w, false)
		}
	}
}

// P3.1, May: lists of no elements are nothing, whether nil or empty.
func TestMayEmptyLists(t *testing.T) {
	for _, v := range []api.Value{{}, boolean(true), digits("1"), text("a"), array(), array(api.Value{}), object(), object(member("a", api.Value{}))} {
		if v.L == nil {
			v.L = []api.Value{}
		}
		if v.M == nil {
			v.M = []api.Member{}
		}
		wantMay(t, v, true)
	}
}

// P3.1, May: digits are 1 to 60, neither the first nor the last one a 0.
func TestMayDigits(t *testing.T) {
	for k := 1; k <= 130; k++ {
		wantMay(t, digits(strings.Repeat("1", k)), k <= api.MaxDigits)
		wantMay(t, number(api.Num{Neg: true, Digits: strings.Repeat("7", k), Exp: 5}), k <= api.MaxDigits)
		wantMay(t, digits("1"+strings.Repeat("0", k)+"1"), k+2 <= api.MaxDigits)
		wantMay(t, digits("1"+strings.Repeat("0", k)), false)
		wantMay(t, digits(strings.Repeat("0", k)+"1"), false)
		wantMay(t, digits(strings.Repeat("0", k)), false)
	}
	for _, s := range []string{
		"0", "00", "10", "01", "010", "-", "-1", "+1", "--1", "1-", "1.5", "1.0", "0.1", ".5", "5.", "1e5", "1E5", "1e0", "1e-1", "e1",
		" ", " 1", "1 ", "1\n", "1a", "a", "0x1", "1_1", "1,1", "\x00", "1\x00", "1\xff", "\xff", "\u0661", "\uff11", "NaN", "Inf", "null",
		"-" + strings.Repeat("1", 60), strings.Repeat("1", 59) + "x", strings.Repeat("1", 20000),
	} {
		wantMay(t, digits(s), false)
		wantMay(t, number(api.Num{Neg: true, Digits: s}), false)
		wantMay(t, number(api.Num{Digits: s, Exp: -3}), false)
	}
}

// P3.1, May: every byte as a digit of its own, and among others.
func TestMayEachByteAsDigit(t *testing.T) {
	for b := range 256 {
		c := string([]byte{byte(b)})
		digit := '0' <= b && b <= '9'
		wantMay(t, digits(c), digit && b != '0')
		wantMay(t, digits(c+"1"), digit && b != '0')
		wantMay(t, digits("1"+c), digit && b != '0')
		wantMay(t, digits("1"+c+"1"), digit)
	}
}

// P3.1, May: exponents are -1000 to 1000; 0 is the zero value alone.
func TestMayExponent(t *testing.T) {
	for e := -1100; e <= 1100; e++ {
		v := number(api.Num{Neg: e%2 == 0, Digits: "12", Exp: e})
		if want := -1000 <= e && e <= 1000; May(v) != want {
			t.Errorf("May(12e%d) is %v", e, !want)
		}
		if want := e == 0; May(number(api.Num{Exp: e})) != want {
			t.Errorf("May of no digits and the Exp %d is %v", e, !want)
		}
	}
	for _, e := range []int{math.MinInt, math.MaxInt, math.MinInt32, math.MaxInt32, 1 << 16, 1 << 32, -1 << 32} {
		wantMay(t, number(api.Num{Digits: "1", Exp: e}), false)
		wantMay(t, number(api.Num{Exp: e}), false)
	}
	wantMay(t, number(api.Num{}), true)
	wantMay(t, number(api.Num{Neg: true}), false)
	wantMay(t, number(api.Num{Neg: true, Exp: 1}), false)
}

// notUTF8 are texts that RFC 3629 hasn't.
func notUTF8() []string {
	l := []string{
		"\xc0\x80", "\xc0\xaf", "\xc1\xbf", "\xe0\x80\x80", "\xe0\x9f\xbf", "\xf0\x80\x80\x80", "\xf0\x8f\xbf\xbf",
		"\xed\xa0\x80", "\xed\xbf\xbf", "\xed\xa0\x80\xed\xb0\x80", "\xf4\x90\x80\x80", "\xf5\x80\x80\x80", "\xf8\x88\x80\x80\x80",
		"\xc3", "\xe2\x82", "\xf0\x9f\x98", "\xc3\xc3", "\xe2\x82A", "\xf0\x9f\x98\"",
	}
	for b := 0x80; b <= 0xff; b++ {
		l = append(l, string([]byte{byte(b)}))
	}
	return l
}

// P3.1, May: texts and keys are UTF-8.
func TestMayUTF8(t *testing.T) {
	for _, s := range notUTF8() {
		for _, s := range []string{s, "a" + s, s + "a", "\u00e9" + s, s + "\u20ac"} {
			wantMay(t, text(s), false)
			wantMay(t, object(member(s, api.Value{})), false)
			wantMay(t, object(member("\x00", api.Value{}), member(s, api.Value{})), false)
			wantMay(t, object(member(s, api.Value{}), member(s+s, api.Value{})), false)
		}
	}
	for r := rune(0); r <= 0x10ffff; r++ {
		if 0xd800 <= r && r <= 0xdfff {
			continue
		}
		if !May(text(string(r))) || !May(object(member(string(r), api.Value{}))) {
			t.Fatalf("%U may not be", r)
		}
	}
}

// P3.1, May: keys rise, byte by byte, so none is there twice.
func TestMayKeysRise(t *testing.T) {
	rising := []string{
		"", "\x00", "\x00\x00", " ", "!", "\"", "0", "1", "10", "2", "A", "B", "Z", "\\", "_", "a", "aA", "aa", "ab", "b", "~", "\x7f",
		"\u0080", "\u00e9", "\u07ff", "\u0800", "\u20ac", "\ud7ff", "\ue000", "\ufffd", "\uffff", "\U00010000", "\U0010ffff",
	}
	for i, a := range rising {
		for k, b := range rising {
			v := object(member(a, api.Value{}), member(b, api.Value{}))
			if May(v) != (i < k) {
				t.Errorf("May of keys %q, %q is %v", a, b, i >= k)
			}
		}
	}
	var l []api.Member
	for _, k := range rising {
		l = append(l, member(k, api.Value{}))
	}
	wantMay(t, object(l...), true)
	for i := range l[1:] {
		swapped := slices.Clone(l)
		swapped[i], swapped[i+1] = swapped[i+1], swapped[i]
		wantMay(t, object(swapped...), false)
		twice := slices.Clone(l)
		twice[i+1].Key = twice[i].Key
		wantMay(t, object(twice...), false)
	}
	// A key may be there again in another object.
	wantMay(t, object(member("a", object(member("a", array(object(member("a", api.Value{})))))), member("b", object(member("a", api.Value{})))), true)
}

// P3.1: no limit of texts, documents or patches is one of values.
func TestNoOtherLimits(t *testing.T) {
	for _, levels := range []int{31, 32, 33, 100, 5000} {
		for _, kinds := range [][]int{{api.Array}, {api.Object}, {api.Array, api.Object}} {
			v := nest(text("x"), levels, kinds...)
			if !May(v) || Depth(v) != levels || Size(v) != levels+1 || !Same(v, clone(v)) {
				t.Errorf("%d levels: May %v, Depth %d, Size %d", levels, May(v), Depth(v), Size(v))
			}
		}
	}
	long := array(make([]api.Value, 50000)...)
	if !May(long) || Depth(long) != 1 || Size(long) != 50001 || !Same(long, clone(long)) {
		t.Error("a long Array:", May(long), Depth(long), Size(long))
	}
}

// P1: as deep as the document's promises go.
func TestDeepest(t *testing.T) {
	for _, kinds := range [][]int{{api.Array}, {api.Object}, {api.Array, api.Object}} {
		v := nest(boolean(true), 1<<16, kinds...)
		if !May(v) || Depth(v) != 1<<16 || Size(v) != 1<<16+1 || !Same(v, clone(v)) {
			t.Error("the deepest value")
		}
		if Same(v, nest(boolean(false), 1<<16, kinds...)) || May(nest(api.Value{B: true}, 1<<16, kinds...)) {
			t.Error("the deepest value, another one in it")
		}
	}
}

// P1: May ends, where a list holds itself, too.
func TestMayLoops(t *testing.T) {
	l := make([]api.Value, 3)
	for i := range l {
		l[i] = array(l...)
	}
	m := make([]api.Member, 2)
	m[0] = member("a", digits("1"))
	m[1] = member("b", array(text("x"), object(m...), object(m...)))
	for _, v := range []api.Value{array(l...), object(m...), array(digits("1"), array(l...)), {Kind: api.Array, L: l}, {Kind: api.Object, M: m}} {
		if May(v) {
			t.Error("a value without an end may be")
		}
	}
}

// P3.1, Same, and P3.3: just those are the same that are one value.
func TestSameEdges(t *testing.T) {
	l := edgeValues()
	for i, a := range l {
		for k, b := range l {
			if Same(a, clone(b)) != (i == k) {
				t.Errorf("Same(%+.200v, %+.200v) is %v", a, b, i != k)
			}
			if Same(array(api.Value{}, a), array(api.Value{}, b)) != (i == k) {
				t.Errorf("Same of %+.200v and %+.200v in Arrays is %v", a, b, i != k)
			}
			if Same(object(member("k", a), member("l", a)), object(member("k", a), member("l", b))) != (i == k) {
				t.Errorf("Same of %+.200v and %+.200v in Objects is %v", a, b, i != k)
			}
		}
	}
}

// P3.1, Same: lists of no elements are the same, whether nil or empty.
func TestSameEmptyLists(t *testing.T) {
	for _, v := range []api.Value{{}, boolean(true), digits("1"), text("a"), array(), object(), array(array()), object(member("a", object()))} {
		w := clone(v)
		if w.L == nil {
			w.L = []api.Value{}
		}
		if w.M == nil {
			w.M = []api.Member{}
		}
		if !Same(v, w) || !Same(w, v) || !Same(w, w) {
			t.Errorf("Same(%#v, %#v)", v, w)
		}
	}
	if !Same(array(api.Value{Kind: api.Array, L: []api.Value{}}), array(api.Value{Kind: api.Array})) {
		t.Error("an empty Array in an Array")
	}
	if Same(api.Value{Kind: api.Array, L: []api.Value{}}, api.Value{Kind: api.Object, M: []api.Member{}}) {
		t.Error("an empty Array is no empty Object")
	}
}

// P3.1, Size and Depth: told by hand.
func TestSizeDepth(t *testing.T) {
	one, null := digits("1"), api.Value{}
	for i, c := range []struct {
		v           api.Value
		size, depth int
	}{
		{null, 1, 0}, {boolean(true), 1, 0}, {one, 1, 0}, {text("[[]]"), 1, 0}, {text(""), 1, 0},
		{array(), 1, 1}, {object(), 1, 1}, {api.Value{Kind: api.Array, L: []api.Value{}}, 1, 1}, {api.Value{Kind: api.Object, M: []api.Member{}}, 1, 1},
		{array(null), 2, 1}, {array(one, one, one), 4, 1}, {array(array()), 2, 2}, {array(object()), 2, 2}, {array(array(), array(), array()), 4, 2},
		{object(member("a", null)), 2, 1}, {object(member("a", array())), 2, 2}, {object(member("a", object())), 2, 2},
		{object(member("a", one), member("b", one)), 3, 1}, {object(member("a", array(array())), member("b", array())), 4, 3},
		{array(array(array()), array()), 4, 3}, {array(array(), array(array())), 4, 3}, {array(one, array(one, array(one)), one), 7, 3},
		{object(member("a", one), member("b", object(member("c", array(one, object())))), member("d", null)), 7, 4},
		{array(object(member("a", array(one, one))), array(), one), 7, 3},
	} {
		if !May(c.v) || Size(c.v) != c.size || Depth(c.v) != c.depth {
			t.Errorf("%d: May %v, Size %d, Depth %d; want %d, %d", i, May(c.v), Size(c.v), Depth(c.v), c.size, c.depth)
		}
	}
}

func wantNone(t *testing.T, v api.Value, key string) {
	t.Helper()
	if x, ok := Find(v, key); ok || !reflect.DeepEqual(x, api.Value{}) {
		t.Errorf("Find(%+.200v, %q) = %+v, %v", v, key, x, ok)
	}
}

// P3.1, Find: each key that is there, and those beside it that are not.
func TestFind(t *testing.T) {
	var l []api.Member
	for k := range 70 {
		v := object(l...)
		for i, m := range l {
			x, ok := Find(v, m.Key)
			if !ok || !reflect.DeepEqual(x, text(strconv.Itoa(i))) {
				t.Errorf("Find of %q among %d = %+v, %v", m.Key, k, x, ok)
			}
			for _, key := range []string{m.Key[1:], m.Key + "a", m.Key + "\x00", m.Key[:1], strings.ToUpper(m.Key)} {
				wantNone(t, v, key)
			}
		}
		wantNone(t, v, "")
		wantNone(t, v, "\xff")
		key := "k" + string(rune(0x20+k*300)) + "z"
		wantNone(t, v, key)
		l = append(l, member(key, text(strconv.Itoa(k))))
	}
	if !May(object(l...)) {
		t.Error("the members may not be")
	}
}

// P3.1, Find: keys as bytes, and values of each Kind.
func TestFindEdges(t *testing.T) {
	v := object(member("", digits("1")), member("\x00", digits("2")), member("A", digits("3")), member("a", digits("4")), member("e\u0301", digits("5")),
		member("\u00e9", digits("6")), member("\uffff", digits("7")), member("\U00010000", digits("8")))
	for i, m := range v.M {
		if x, ok := Find(v, m.Key); !ok || !reflect.DeepEqual(x, digits(strconv.Itoa(i+1))) {
			t.Errorf("Find of %q = %+v, %v", m.Key, x, ok)
		}
	}
	for _, key := range []string{"\x00\x00", "B", "b", "e", "\u0301", "E\u0301", "\ufffd", "\xff", "\xc3", "\xed\xa0\x80", "\U00010001", strings.Repeat("a", 30000)} {
		wantNone(t, v, key)
	}
	for _, x := range edgeValues() {
		got, ok := Find(object(member("a", text("n")), member("b", x), member("c", text("n"))), "b")
		if !ok || !reflect.DeepEqual(got, x) {
			t.Errorf("Find of %+.200v = %+.200v, %v", x, got, ok)
		}
	}
}

// P3.1, Find: nothing, if v is no Object, and no member of a member.
func TestFindNoObject(t *testing.T) {
	in := object(member("a", digits("1")), member("", digits("2")))
	for _, v := range []api.Value{{}, boolean(true), digits("1"), text("a"), text(""), array(), array(in), array(in, in), object()} {
		for _, key := range []string{"", "a", "0", "1", "-", "\xff"} {
			wantNone(t, v, key)
		}
	}
	deep := object(member("b", in))
	wantNone(t, deep, "a")
	wantNone(t, deep, "")
	wantNone(t, deep, "b/a")
	wantNone(t, deep, "/b")
}

// oracle tells by a value's definition alone: an unambiguous text of it, its size and its depth.
func oracle(v api.Value) (string, int, int) {
	var b strings.Builder
	size, depth := 1, 0
	within := func(x api.Value) {
		s, n, d := oracle(x)
		b.WriteString(s)
		size += n
		depth = max(depth, d)
	}
	b.WriteString(strconv.Itoa(v.Kind))
	switch v.Kind {
	case api.Bool:
		b.WriteString(strconv.FormatBool(v.B))
	case api.Number:
		b.WriteString(strconv.FormatBool(v.N.Neg) + strconv.Quote(v.N.Digits) + strconv.Itoa(v.N.Exp))
	case api.String:
		b.WriteString(strconv.Quote(v.S))
	case api.Array:
		for _, x := range v.L {
			b.WriteString(",")
			within(x)
		}
		depth++
	case api.Object:
		for _, m := range v.M {
			b.WriteString("," + strconv.Quote(m.Key))
			within(m.V)
		}
		depth++
	}
	b.WriteString(";")
	return b.String(), size, depth
}

// randomValue may be, and is often the same as another one.
func randomValue(r *rand.Rand, levels int) api.Value {
	words := []string{"", "a", "b", "aa", "\u00e9", "\U00010000"}
	kinds := 6
	if levels == 0 {
		kinds = 4
	}
	v := api.Value{Kind: r.Intn(kinds)}
	switch v.Kind {
	case api.Bool:
		v.B = r.Intn(2) == 0
	case api.Number:
		if r.Intn(3) > 0 {
			v.N = api.Num{Neg: r.Intn(2) == 0, Digits: []string{"1", "2", "11"}[r.Intn(3)], Exp: r.Intn(3) - 1}
		}
	case api.String:
		v.S = words[r.Intn(len(words))]
	case api.Array:
		for range r.Intn(4) {
			v.L = append(v.L, randomValue(r, levels-1))
		}
	case api.Object:
		for _, k := range slices.Sorted(slices.Values(words)) {
			if r.Intn(3) == 0 {
				v.M = append(v.M, member(k, randomValue(r, levels-1)))
			}
		}
	}
	return v
}

// P3.1, P3.3: many values, against their definition.
func TestRandomValues(t *testing.T) {
	r := rand.New(rand.NewSource(3))
	var values []api.Value
	var texts []string
	for i := range 1500 {
		v := randomValue(r, i%4)
		s, size, depth := oracle(v)
		if !May(v) || Size(v) != size || Depth(v) != depth {
			t.Errorf("May(%s) %v, Size %d, Depth %d; want %d, %d", s, May(v), Size(v), Depth(v), size, depth)
		}
		values, texts = append(values, v), append(texts, s)
	}
	met := map[bool]int{}
	for i, a := range values {
		for k, b := range values {
			want := texts[i] == texts[k]
			if Same(a, b) != want {
				t.Fatalf("Same(%s, %s) is %v", texts[i], texts[k], !want)
			}
			if i != k && Depth(a) > 0 {
				met[want]++
			}
		}
	}
	if met[true] < 500 || met[false] < 500 {
		t.Error("too few of one kind:", met)
	}
}

// places are pointers to all values in v, itself too.
func places(v *api.Value) []*api.Value {
	l := []*api.Value{v}
	for i := range v.L {
		l = append(l, places(&v.L[i])...)
	}
	for i := range v.M {
		l = append(l, places(&v.M[i].V)...)
	}
	return l
}

// P3.1: one change in any place of a value is seen, by May and by Same.
func TestOneChange(t *testing.T) {
	r := rand.New(rand.NewSource(4))
	for range 400 {
		v := randomValue(r, 4)
		for i := range places(&v) {
			for _, c := range []struct {
				v   api.Value
				may bool
			}{
				{api.Value{Kind: 6}, false}, {api.Value{S: "a"}, false}, {digits("10"), false}, {text("\xff"), false},
				{object(member("b", api.Value{}), member("a", api.Value{})), false}, {text("unlike"), true}, {array(text("unlike")), true},
			} {
				w := clone(v)
				*places(&w)[i] = c.v
				if May(w) != c.may {
					t.Errorf("May of %+v in place %d is %v", c.v, i, !c.may)
				}
				if c.may && (Same(v, w) || Same(w, v)) {
					t.Errorf("Same with %+v in place %d", c.v, i)
				}
			}
		}
	}
}

// P3.3: Same is of one value with itself, both ways, and on from one to the next.
func TestSameLaws(t *testing.T) {
	r := rand.New(rand.NewSource(5))
	var l []api.Value
	for range 150 {
		v := randomValue(r, 2)
		l = append(l, v, clone(v))
	}
	for _, a := range l {
		if !Same(a, a) {
			t.Errorf("%+v isn't the same as itself", a)
		}
		for _, b := range l {
			if Same(a, b) != Same(b, a) {
				t.Errorf("Same(%+v, %+v) goes one way", a, b)
			}
			if !Same(a, b) {
				continue
			}
			for _, c := range l {
				if Same(b, c) && !Same(a, c) {
					t.Errorf("Same doesn't go on from %+v", a)
				}
			}
		}
	}
}

// P3.2: nothing is changed, and nothing kept.
func TestNothingChangedOrKept(t *testing.T) {
	r := rand.New(rand.NewSource(6))
	unlike := append(edgeValues(), api.Value{Kind: 7}, api.Value{B: true}, array(digits("10")), object(member("b", api.Value{}), member("a", api.Value{})))
	for i := range 300 {
		v := randomValue(r, 3)
		if i < len(unlike) {
			v = unlike[i]
		}
		before := clone(v)
		may := May(v)
		if may {
			Same(v, v)
			Size(v)
			Depth(v)
			Find(v, "a")
			Find(v, "none")
		}
		if !reflect.DeepEqual(v, before) {
			t.Errorf("changed: %+v, was %+v", v, before)
		}
	}
	l := []api.Value{digits("1")}
	v, w := api.Value{Kind: api.Array, L: l}, array(digits("1"))
	if !May(v) || !Same(v, w) || Size(v) != 2 || Depth(v) != 1 {
		t.Error("ahead of the change")
	}
	l[0] = array(api.Value{Kind: 9})
	if May(v) || Same(v, w) {
		t.Error("May or Same tells what was there")
	}
	l[0] = array(text("a"))
	if !May(v) || Same(v, w) || Size(v) != 3 || Depth(v) != 2 {
		t.Error("Size or Depth tells what was there")
	}
}
