package show

import (
	"encoding/json"
	"math/rand"
	"reflect"
	"slices"
	"strconv"
	"strings"
	"sync"
	"testing"
	"unicode/utf8"
	"unsafe"

	"doublet/api"
	"doublet/parse"
	"doublet/value"
)

func boolean(b bool) api.Value                { return api.Value{Kind: api.Bool, B: b} }
func number(n api.Num) api.Value              { return api.Value{Kind: api.Number, N: n} }
func digits(s string) api.Value               { return number(api.Num{Digits: s}) }
func text(s string) api.Value                 { return api.Value{Kind: api.String, S: s} }
func array(l ...api.Value) api.Value          { return api.Value{Kind: api.Array, L: l} }
func object(l ...api.Member) api.Value        { return api.Value{Kind: api.Object, M: l} }
func member(k string, v api.Value) api.Member { return api.Member{Key: k, V: v} }

// equal holds values against each other field by field; a list of no elements may be nil or empty.
func equal(a, b api.Value) bool {
	if a.Kind != b.Kind || a.B != b.B || a.N != b.N || a.S != b.S {
		return false
	}
	return slices.EqualFunc(a.L, b.L, equal) &&
		slices.EqualFunc(a.M, b.M, func(a, b api.Member) bool { return a.Key == b.Key && equal(a.V, b.V) })
}

// clone shares no list with v.
func clone(v api.Value) api.Value {
	v.L, v.M = slices.Clone(v.L), slices.Clone(v.M)
	for i := range v.L {
		v.L[i] = clone(v.L[i])
	}
	for i := range v.M {
		v.M[i].V = clone(v.M[i].V)
	}
	return v
}

// wantText also asks for the value back, if its text isn't too long or too deep: P5.2, P4.3.
func wantText(t *testing.T, v api.Value, want string) {
	t.Helper()
	if !value.May(v) {
		t.Fatalf("%.200s: it may not be", want)
	}
	got := Show(v)
	if got != want {
		t.Errorf("Show is %.200q, want %.200q", got, want)
	}
	w, err := parse.Parse(got)
	if long, deep := len(got) > 20000, value.Depth(v) > 32; long || deep {
		var code api.Code = api.ErrDepth
		if long {
			code = api.ErrLarge
		}
		if spot, ok := err.(*api.Spot); !ok || spot.Code != code {
			t.Errorf("%.200q of %d bytes: %v", got, len(got), err)
		}
		return
	}
	if err != nil || !equal(v, w) || !value.Same(v, w) {
		t.Errorf("%.200q is parsed as %+v, %v", got, w, err)
	}
}

// wantEverywhere asks for the text of v as the whole, and within lists.
func wantEverywhere(t *testing.T, v api.Value, want string) {
	t.Helper()
	wantText(t, v, want)
	wantText(t, array(v), "["+want+"]")
	wantText(t, array(v, api.Value{}, v), "["+want+",null,"+want+"]")
	wantText(t, object(member("a", v)), `{"a":`+want+`}`)
	wantText(t, object(member("", v), member("b", array(array(v)))), `{"":`+want+`,"b":[[`+want+`]]}`)
}

// P5.1: ordinary values.
func TestOrdinary(t *testing.T) {
	one, two := digits("1"), digits("2")
	for want, v := range map[string]api.Value{
		"null": {}, "true": boolean(true), "false": boolean(false), "0": digits(""), "1": one, "-15e-2": number(api.Num{Neg: true, Digits: "15", Exp: -2}),
		`""`: text(""), `"a"`: text("a"), `"null"`: text("null"), `"[1, 2]"`: text("[1, 2]"), `"0"`: text("0"),
		"[]": array(), "[null]": array(api.Value{}), "[1,2]": array(one, two), "[2,1,2]": array(two, one, two), "[[]]": array(array()), "[[],[],{}]": array(array(), array(), object()),
		"{}": object(), `{"a":1}`: object(member("a", one)), `{"":null}`: object(member("", api.Value{})), `{"a":{"a":{"a":[]}}}`: object(member("a", object(member("a", object(member("a", array())))))),
		`[{"a":1},{"a":2}]`: array(object(member("a", one)), object(member("a", two))),
		`{"a":[],"b":1}`:    object(member("a", array()), member("b", one)),
		`{"a":false,"b":true,"c":{},"d":"","e":null}`: object(member("a", boolean(false)), member("b", boolean(true)), member("c", object()), member("d", text("")), member("e", api.Value{})),
		`[true,"x",-1,{},[null,false]]`:               array(boolean(true), text("x"), number(api.Num{Neg: true, Digits: "1"}), object(), array(api.Value{}, boolean(false))),
	} {
		wantEverywhere(t, v, want)
	}
}

// P5.1: from a text to its canonical one; blanks, orders of keys, and other spellings are gone.
func TestFromTexts(t *testing.T) {
	for _, c := range []struct{ b, want string }{
		{`{"b":1.0,"a":[]}`, `{"a":[],"b":1}`},
		{" null\n", "null"}, {"\ttrue", "true"}, {"false ", "false"},
		{"[ 1 , 2 ]", "[1,2]"}, {"[ ]", "[]"}, {"{ }", "{}"}, {"{ \"a\" : { } , \"A\" : [ \r\n ] }", `{"A":[],"a":{}}`},
		{"-0", "0"}, {"-0.0e5", "0"}, {"100", "1e2"}, {"1E+2", "1e2"}, {"0.00120", "12e-4"}, {"-1.5e1", "-15"}, {"1e-0", "1"}, {"12.0", "12"}, {"1e0001000", "1e1000"}, {"10e-1001", "1e-1000"},
		{`"\u0041\/\b\f\n\r\t\"\\\u001F\u007f\u00E9\ud83d\uDE00"`, `"A/\u0008\u000c\u000a\u000d\u0009\"\\\u001f` + "\x7fé😀\""},
		{`{"\u0062":1,"\/":2,"a":3}`, `{"/":2,"a":3,"b":1}`},
		{`{"a":{"d":1,"c":{"f":0,"e":[{"h":0,"g":0}]}},"":[{"j":[],"i":[]}]}`, `{"":[{"i":[],"j":[]}],"a":{"c":{"e":[{"g":0,"h":0}],"f":0},"d":1}}`},
		{`[3,1,2,"b","a",[2,1]]`, `[3,1,2,"b","a",[2,1]]`},
	} {
		v, err := parse.Parse(c.b)
		if err != nil {
			t.Fatalf("%q: %v", c.b, err)
		}
		wantEverywhere(t, v, c.want)
	}
}

// P5.1: numbers in canonical form, at the edges of those that may be.
func TestNumbers(t *testing.T) {
	sixty := strings.Repeat("9", 60)
	for want, n := range map[string]api.Num{
		"0": {}, "9": {Digits: "9"}, "-9": {Neg: true, Digits: "9"}, "10203": {Digits: "10203"}, "1e1": {Digits: "1", Exp: 1}, "1e-1": {Digits: "1", Exp: -1}, "-1e10": {Neg: true, Digits: "1", Exp: 10},
		"1e1000": {Digits: "1", Exp: 1000}, "-1e-1000": {Neg: true, Digits: "1", Exp: -1000}, sixty: {Digits: sixty}, "-" + sixty + "e1000": {Neg: true, Digits: sixty, Exp: 1000}, sixty + "e-999": {Digits: sixty, Exp: -999},
	} {
		wantEverywhere(t, number(n), want)
	}
}

// P5.1: texts and keys in canonical form, with every character below 256, and the edges of UTF-8.
func TestCharacters(t *testing.T) {
	l := []rune{0x7ff, 0x800, 0x2028, 0x2029, 0xd7ff, 0xe000, 0xfeff, 0xfffd, 0xffff, 0x10000, 0x1f600, utf8.MaxRune}
	for c := range rune(256) {
		l = append(l, c)
	}
	for _, c := range l {
		want := quoted(string(c))
		switch c {
		case '"', '\\':
			want = `"\` + string(c) + `"`
		case 0x1f:
			want = `"\u001f"`
		case '/', '<', '>', '&', 0x7f, 0x2028, 0xfffd:
			want = `"` + string(c) + `"`
		}
		wantEverywhere(t, text(string(c)), want)
		wantEverywhere(t, text("x"+string(c)+string(c)+"y"), `"x`+strings.Repeat(want[1:len(want)-1], 2)+`y"`)
		wantEverywhere(t, object(member(string(c), text(string(c)))), "{"+want+":"+want+"}")
	}
}

// P5.1: lists of each length, nil or empty ones too, with nothing but , and : between.
func TestLengths(t *testing.T) {
	for _, v := range []api.Value{{Kind: api.Array}, {Kind: api.Array, L: []api.Value{}, M: []api.Member{}}, {Kind: api.Array, L: make([]api.Value, 0, 5)}} {
		wantEverywhere(t, v, "[]")
	}
	for _, v := range []api.Value{{Kind: api.Object}, {Kind: api.Object, L: []api.Value{}, M: []api.Member{}}, {Kind: api.Object, M: make([]api.Member, 0, 5)}} {
		wantEverywhere(t, v, "{}")
	}
	for _, v := range []api.Value{{L: []api.Value{}}, {M: []api.Member{}}} {
		wantEverywhere(t, v, "null")
	}
	list, members := array(), object()
	var elements, pairs []string
	for k := range 300 {
		key := strconv.Itoa(1000 + k)
		list.L, elements = append(list.L, boolean(k%3 == 0)), append(elements, strconv.FormatBool(k%3 == 0))
		members.M, pairs = append(members.M, member(key, text(key))), append(pairs, `"`+key+`":"`+key+`"`)
		wantText(t, list, "["+strings.Join(elements, ",")+"]")
		wantText(t, members, "{"+strings.Join(pairs, ",")+"}")
	}
}

// P5.1: members by rising keys, byte by byte.
func TestKeysRise(t *testing.T) {
	keys := []string{
		"", "\x00", "\x00\x00", "\x1f", " ", "\"", "-1", "/", "0", "1", "10", "2", "A", "Z", "\\", "_", "a", "a\x00", "a\"", "aA", "aa", "b", "~", "\x7f",
		"\u0080", "\u00e9", "\u07ff", "\u0800", "\ud7ff", "\ue000", "\uffff", "\U00010000", "\U0010ffff",
	}
	var pairs []string
	for i, k := range keys {
		pairs = append(pairs, quoted(k)+":"+strconv.Itoa(10*i+1))
	}
	want := "{" + strings.Join(pairs, ",") + "}"
	r := rand.New(rand.NewSource(1))
	for range 200 {
		shuffled := slices.Clone(pairs)
		r.Shuffle(len(shuffled), func(i, k int) { shuffled[i], shuffled[k] = shuffled[k], shuffled[i] })
		v, err := parse.Parse("{" + strings.Join(shuffled, ",") + "}")
		if err != nil {
			t.Fatal(err)
		}
		wantEverywhere(t, v, want)
	}
}

// nested is v within so many arrays and objects, and its text.
func nested(v api.Value, s string, levels int, kind func(k int) int) (api.Value, string) {
	ahead, behind := "", ""
	for k := range levels {
		switch kind(k) {
		case 0:
			v, ahead, behind = array(v), "["+ahead, behind+"]"
		case 1:
			v, ahead, behind = object(member("a", v)), `{"a":`+ahead, behind+"}"
		case 2:
			v, ahead, behind = array(array(), v, object()), "[[],"+ahead, behind+",{}]"
		case 3:
			v, ahead, behind = object(member("", array()), member("k", v), member("l", digits("1"))), `{"":[],"k":`+ahead, behind+`,"l":1}`
		}
	}
	return v, ahead + s + behind
}

// P5.1, P5.2: what is too deep for layer 4 is shown, too; what is not is parsed.
func TestDepths(t *testing.T) {
	r := rand.New(rand.NewSource(2))
	for levels := range 70 {
		for _, kinds := range []int{1, 2, 4} {
			v, want := nested(text("bottom"), `"bottom"`, levels, func(k int) int { return (k + r.Intn(2)) % kinds })
			wantText(t, v, want)
		}
	}
	// The document's bound of levels.
	list, members := array(), array()
	for range 1<<16 - 1 {
		list, members = array(list), object(member("", members))
	}
	if Show(list) != strings.Repeat("[", 1<<16)+strings.Repeat("]", 1<<16) {
		t.Errorf("%d arrays are shown as something else", 1<<16)
	}
	if Show(members) != strings.Repeat(`{"":`, 1<<16-1)+"[]"+strings.Repeat("}", 1<<16-1) {
		t.Errorf("%d objects are shown as something else", 1<<16)
	}
}

// P5.1, P5.2: what is too long for layer 4 is shown, too; what is not is parsed.
func TestLong(t *testing.T) {
	for k := 19980; k <= 20010; k++ {
		s := strings.Repeat("é", (k-2)/2) + strings.Repeat("x", k%2)
		wantText(t, text(s), `"`+s+`"`)
		wantText(t, array(text(s[2:]+"\"")), `["`+s[2:]+`\""]`)
		wantText(t, object(member(s, boolean(true))), `{"`+s+`":true}`)
	}
	for _, k := range []int{1, 100, 6665, 6666, 6667, 9999, 10000, 50000} {
		v, want := array(), strings.Repeat(",0", k)
		v.L = slices.Repeat([]api.Value{digits("")}, k)
		wantText(t, v, "["+want[1:]+"]")
		v.L = slices.Repeat([]api.Value{array()}, k)
		wantText(t, v, "["+strings.ReplaceAll(want, "0", "[]")[1:]+"]")
	}
	big := strings.Repeat("\x01", 1<<20)
	wantText(t, text(big), `"`+strings.Repeat(`\u0001`, 1<<20)+`"`)
}

// quoted is s in quotes by the words of layer 2, byte by byte.
func quoted(s string) string {
	l := []byte{'"'}
	for _, c := range []byte(s) {
		switch {
		case c < 16:
			l = append(append(l, `\u000`...), strconv.FormatInt(int64(c), 16)...)
		case c < 32:
			l = append(append(l, `\u00`...), strconv.FormatInt(int64(c), 16)...)
		case c == '"', c == '\\':
			l = append(l, '\\', c)
		default:
			l = append(l, c)
		}
	}
	return string(append(l, '"'))
}

// oracle is a value's canonical text, from its end to its front, without calling itself: what is still to do is a stack of values and of signs.
func oracle(v api.Value) string {
	todo := []any{v}
	var pieces []string
	for len(todo) > 0 {
		last := todo[len(todo)-1]
		todo = todo[:len(todo)-1]
		v, ok := last.(api.Value)
		if !ok {
			pieces = append(pieces, last.(string))
			continue
		}
		switch v.Kind {
		case api.Null:
			pieces = append(pieces, "null")
		case api.Bool:
			pieces = append(pieces, map[bool]string{true: "true", false: "false"}[v.B])
		case api.Number:
			pieces = append(pieces, plain(v.N))
		case api.String:
			pieces = append(pieces, quoted(v.S))
		case api.Array:
			pieces, todo = append(pieces, "]"), append(todo, "[")
			for i, x := range v.L {
				if i > 0 {
					todo = append(todo, ",")
				}
				todo = append(todo, x)
			}
		case api.Object:
			pieces, todo = append(pieces, "}"), append(todo, "{")
			for i, m := range v.M {
				if i > 0 {
					todo = append(todo, ",")
				}
				todo = append(todo, quoted(m.Key), ":", m.V)
			}
		}
	}
	slices.Reverse(pieces)
	return strings.Join(pieces, "")
}

// plain is a number's canonical text by the words of layer 1.
func plain(n api.Num) string {
	s := n.Digits + "e" + strconv.Itoa(n.Exp)
	if n.Digits == "" {
		s = "0"
	}
	if n.Neg {
		s = "-" + s
	}
	return strings.TrimSuffix(s, "e0")
}

// randomValue may be, and is often the same as another one.
func randomValue(r *rand.Rand, levels int) api.Value {
	words := []string{"", "\n", "\"", ",", ":", "[]", "a", "a\":1,\"b", "aa", "b", "null", "}", "\u00e9", "\U00010000"}
	kinds := 6
	if levels == 0 {
		kinds = 4
	}
	v := api.Value{Kind: r.Intn(kinds)}
	switch v.Kind {
	case api.Bool:
		v.B = r.Intn(2) == 0
	case api.Number:
		if r.Intn(3) > 0 {
			v.N = api.Num{Neg: r.Intn(2) == 0, Digits: []string{"1", "2", "11", "1" + strings.Repeat("0", 58) + "1"}[r.Intn(4)], Exp: []int{0, 1, -1, 10, -1000, 1000}[r.Intn(6)]}
		}
	case api.String:
		v.S = words[r.Intn(len(words))]
	case api.Array:
		for range r.Intn(4) {
			v.L = append(v.L, randomValue(r, levels-1))
		}
	case api.Object:
		for _, k := range words {
			if r.Intn(5) == 0 {
				v.M = append(v.M, member(k, randomValue(r, levels-1)))
			}
		}
	}
	return v
}

// P5.1, P5.2: many values, against the oracle, and as the library's decoder has their texts.
func TestRandomValues(t *testing.T) {
	r := rand.New(rand.NewSource(3))
	for i := range 30000 {
		v := randomValue(r, i%6)
		wantText(t, v, oracle(v))
		d := json.NewDecoder(strings.NewReader(Show(v)))
		d.UseNumber()
		var x any
		if err := d.Decode(&x); err != nil || d.More() || !means(v, x) {
			t.Errorf("%q is decoded as %v, %v", Show(v), x, err)
		}
	}
}

// means tells whether the library has in x what v is.
func means(v api.Value, x any) bool {
	switch x := x.(type) {
	case nil:
		return v.Kind == api.Null
	case bool:
		return v.Kind == api.Bool && v.B == x
	case json.Number:
		return v.Kind == api.Number && plain(v.N) == x.String()
	case string:
		return v.Kind == api.String && v.S == x
	case []any:
		return v.Kind == api.Array && slices.EqualFunc(v.L, x, means)
	case map[string]any:
		if v.Kind != api.Object || len(v.M) != len(x) {
			return false
		}
		for _, m := range v.M {
			if y, ok := x[m.Key]; !ok || !means(m.V, y) {
				return false
			}
		}
		return true
	}
	return false
}

// P5.2, T3: texts are the same just if values are.
func TestUnlikeValues(t *testing.T) {
	r := rand.New(rand.NewSource(4))
	l := []api.Value{
		{}, boolean(false), boolean(true), digits(""), digits("1"), number(api.Num{Neg: true, Digits: "1"}), number(api.Num{Digits: "1", Exp: 1}), number(api.Num{Digits: "1", Exp: -1}), digits("11"),
		text(""), text("null"), text("true"), text("0"), text("1"), text("1e1"), text("[]"), text("{}"), text(`""`), text(`\"`), text(`\u0000`), text("\x00"), text("\n"), text(`\n`),
		array(), object(), array(array()), array(object()), array(text("")), array(text(","), text("")), array(text(""), text(",")), array(text(`","`)), array(text(""), text("")), array(api.Value{}), array(api.Value{}, api.Value{}),
		array(digits("1"), digits("1")), array(array(digits("1")), digits("1")), array(digits("1"), array(digits("1"))), array(array(digits("1"), digits("1"))), array(array(), array()), array(array(array())),
		object(member("", api.Value{})), object(member("a", digits("1"))), object(member("a", text("1"))), object(member("a", digits("1")), member("b", digits("1"))), object(member(`a":1,"b`, digits("1"))),
		object(member("a", array(digits("1"), text("b"), digits("1")))), object(member("a", object(member("b", object())))), object(member("a", object()), member("b", object())), array(text("a"), digits("1")), array(text("a:1")),
	}
	for i := range 900 {
		l = append(l, randomValue(r, i%4))
	}
	met := map[bool]int{}
	for i, a := range l {
		for k, b := range l {
			same := value.Same(a, b)
			if (Show(a) == Show(b)) != same {
				t.Fatalf("%s and %s: Same is %v", Show(a), Show(b), same)
			}
			if i != k && a.Kind >= api.Array {
				met[same]++
			}
		}
	}
	if met[true] < 500 || met[false] < 500 {
		t.Error("too few of one kind:", met)
	}
}

// places are pointers to all values in v, itself too.
func places(v *api.Value) []*api.Value {
	l := []*api.Value{v}
	for i := range v.L {
		l = append(l, places(&v.L[i])...)
	}
	for i := range v.M {
		l = append(l, places(&v.M[i].V)...)
	}
	return l
}

// P5.2: one change in any place of a value is seen in its text.
func TestOneChange(t *testing.T) {
	r := rand.New(rand.NewSource(5))
	for range 300 {
		v := randomValue(r, 5)
		for i := range places(&v) {
			for _, c := range []api.Value{text("unlike"), array(text("unlike")), object(member("unlike", api.Value{})), number(api.Num{Digits: "7", Exp: 77})} {
				w := clone(v)
				*places(&w)[i] = c
				if Show(w) == Show(v) || Show(w) != oracle(w) {
					t.Errorf("%s with %s in place %d is %s", Show(v), Show(c), i, Show(w))
				}
			}
		}
	}
}

// texts are all texts in v.
func texts(v api.Value) []string {
	l := []string{v.S, v.N.Digits}
	for _, x := range v.L {
		l = append(l, texts(x)...)
	}
	for _, m := range v.M {
		l = append(append(l, m.Key), texts(m.V)...)
	}
	return l
}

// share tells whether two texts have memory together.
func share(a, b string) bool {
	from, other := uintptr(unsafe.Pointer(unsafe.StringData(a))), uintptr(unsafe.Pointer(unsafe.StringData(b)))
	return from < other+uintptr(len(b)) && other < from+uintptr(len(a))
}

// R2: nothing that is handed in is changed or kept, and each text is new.
func TestNothingChangedOrShared(t *testing.T) {
	r := rand.New(rand.NewSource(6))
	l := []api.Value{{}, boolean(true), digits("7"), digits(strings.Repeat("7", 60)), text("plain text"), array(), object(), object(member("plain key", text("plain text")))}
	for i := range 500 {
		l = append(l, randomValue(r, i%5))
	}
	for _, v := range l {
		before := clone(v)
		s, again := Show(v), Show(v)
		if !reflect.DeepEqual(v, before) {
			t.Errorf("changed: %+v, was %+v", v, before)
		}
		if s != again || share(s, again) {
			t.Errorf("%q and %q are told of one value", s, again)
		}
		for _, in := range texts(v) {
			if share(s, in) {
				t.Errorf("%q shares memory with %q", s, in)
			}
		}
	}
	list := []api.Value{digits("1")}
	v := api.Value{Kind: api.Array, L: list}
	wantText(t, v, "[1]")
	list[0] = array(text("a"))
	wantText(t, v, `[["a"]]`)
}

// R2: what else is shown at the same time doesn't matter.
func TestAtOnce(t *testing.T) {
	r := rand.New(rand.NewSource(7))
	var values []api.Value
	var want []string
	for range 300 {
		v := randomValue(r, 4)
		values, want = append(values, v), append(want, oracle(v))
	}
	var writers sync.WaitGroup
	for k := range 8 {
		writers.Go(func() {
			for i := range values {
				i = (i*7 + k*31) % len(values)
				if got := Show(values[i]); got != want[i] {
					t.Errorf("Show is %q, want %q", got, want[i])
				}
			}
		})
	}
	writers.Wait()
}

// P5.1, P5.2: whatever text has a value, its canonical one is the oracle's, and is parsed as it was.
func FuzzShow(f *testing.F) {
	f.Add(` {"a" : [ -1.50e+3 , "\u00e9\"x", null ] , "\u0062":{"":true}} `)
	f.Add(`[[],{},[0,-0,100]]`)
	f.Fuzz(func(t *testing.T, b string) {
		if v, err := parse.Parse(b); err == nil {
			wantText(t, v, oracle(v))
		}
	})
}
