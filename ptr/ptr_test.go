package ptr

import (
	"math"
	"math/rand"
	"reflect"
	"regexp"
	"slices"
	"strconv"
	"strings"
	"sync"
	"testing"

	"doublet/api"
)

func boolean(b bool) api.Value                { return api.Value{Kind: api.Bool, B: b} }
func digits(s string) api.Value               { return api.Value{Kind: api.Number, N: api.Num{Digits: s}} }
func text(s string) api.Value                 { return api.Value{Kind: api.String, S: s} }
func array(l ...api.Value) api.Value          { return api.Value{Kind: api.Array, L: l} }
func object(l ...api.Member) api.Value        { return api.Value{Kind: api.Object, M: l} }
func member(k string, v api.Value) api.Member { return api.Member{Key: k, V: v} }

// clone shares no list with v.
func clone(v api.Value) api.Value {
	v.L, v.M = slices.Clone(v.L), slices.Clone(v.M)
	for i := range v.L {
		v.L[i] = clone(v.L[i])
	}
	for i := range v.M {
		v.M[i].V = clone(v.M[i].V)
	}
	return v
}

// wantNames asks for the names, and for the text back: P6.1, P6.4.
func wantNames(t *testing.T, s string, want ...string) {
	t.Helper()
	l, err := Parse(s)
	if err != nil || !slices.Equal(l, want) {
		t.Errorf("Parse(%.200q) is %.200q, %v, want %.200q", s, l, err, want)
	}
	if got := Show(want); got != s {
		t.Errorf("Show(%.200q) is %.200q, want %.200q", want, got, s)
	}
}

// wantSpot asks for ErrForm as a Spot, and for nothing beside it: P6.1, R3.
func wantSpot(t *testing.T, s string, at int) {
	t.Helper()
	l, err := Parse(s)
	spot, ok := err.(*api.Spot)
	if !ok || spot == nil || *spot != (api.Spot{At: at, Code: api.ErrForm}) || len(l) != 0 {
		t.Errorf("Parse(%.200q) is %.200q, %v, want ErrForm at %d", s, l, err, at)
	}
}

// P6.1, P6.4: ordinary pointers, no names, empty ones, and those with signs of a pointer's own.
func TestPointers(t *testing.T) {
	wantNames(t, "")
	wantNames(t, "/", "")
	wantNames(t, "//", "", "")
	wantNames(t, "////", "", "", "", "")
	wantNames(t, "/a", "a")
	wantNames(t, "/a/b", "a", "b")
	wantNames(t, "/a/", "a", "")
	wantNames(t, "//a", "", "a")
	wantNames(t, "/a//b", "a", "", "b")
	wantNames(t, "/a~1b/0", "a/b", "0")
	wantNames(t, "/foo/0/-/01/-1", "foo", "0", "-", "01", "-1")
	wantNames(t, "/~0", "~")
	wantNames(t, "/~1", "/")
	wantNames(t, "/~0~0/~1~1", "~~", "//")
	wantNames(t, "/~01", "~1")
	wantNames(t, "/~00", "~0")
	wantNames(t, "/~10", "/0")
	wantNames(t, "/~11", "/1")
	wantNames(t, "/~0~1", "~/")
	wantNames(t, "/~1~0", "/~")
	wantNames(t, "/~001", "~01")
	wantNames(t, "/~0~01", "~~1")
	wantNames(t, "/~01~10~00", "~1/0~0")
	wantNames(t, "/m~0n/x~1y~1/~1", "m~n", "x/y/", "/")
	wantNames(t, "/ /%25/c%d/e^f/g|h/i\\j/k\"l/#", " ", "%25", "c%d", "e^f", "g|h", "i\\j", "k\"l", "#")
	wantNames(t, "/\u00e9/\U0001f600/\x00/\n", "\u00e9", "\U0001f600", "\x00", "\n")
	wantNames(t, "/\xff\xc3/\xed\xa0\x80~0\x80", "\xff\xc3", "\xed\xa0\x80~\x80")
}

// P6.1: which one is no pointer, and where.
func TestNoPointers(t *testing.T) {
	for s, at := range map[string]int{
		"a": 0, "a/b": 0, " ": 0, " /a": 0, "#/a": 0, "0": 0, "-": 0, "\x00": 0, "\xff": 0, "\u00e9/": 0, "\\/a": 0,
		// No / in front is told ahead of any ~ further on.
		"~": 0, "~0": 0, "~1a": 0, "~1/a": 0, "a~": 0, "a/~2": 0, "abc/d~/e~": 0,
		"/~": 1, "/~/": 1, "/~2": 1, "/~a": 1, "/~~": 1, "/~~0": 1, "/~~1": 1, "/~ 0": 1, "/~\x00": 1, "/~\x01": 1, "/~\xff": 1, "/~\u0661": 1, "/~-": 1, "//~": 2,
		"/a~": 2, "/a~2": 2, "/a~/b": 2, "/a~/~0": 2, "/~0~": 3, "/~1~": 3, "/~0~2~": 3, "/~01~": 4, "/a/b~0/~1~x~y": 9, "/\u00e9~": 3, "/\xff~": 2,
		"/~0/~1/~": 7, "/" + strings.Repeat("~0", 1000) + "~": 2001, "/" + strings.Repeat("a/", 1000) + "~": 2001,
	} {
		wantSpot(t, s, at)
	}
}

var (
	pointer = regexp.MustCompile(`^(?s:(/([^/~]|~[01])*)*)$`)
	loose   = regexp.MustCompile(`(?s:~([^01]|$))`)
)

// checkText asks for what the promise says of any text.
func checkText(t *testing.T, s string) {
	t.Helper()
	switch {
	case s != "" && s[0] != '/':
		wantSpot(t, s, 0)
	case loose.MatchString(s):
		wantSpot(t, s, loose.FindStringIndex(s)[0])
	default:
		wantNames(t, s, split(s)...)
	}
	if _, err := Parse(s); (err == nil) != pointer.MatchString(s) {
		t.Errorf("Parse(%q): %v", s, err)
	}
}

// split goes through a pointer's text byte by byte.
func split(s string) []string {
	var l []string
	for i := 0; i < len(s); i++ {
		switch s[i] {
		case '/':
			l = append(l, "")
		case '~':
			i++
			l[len(l)-1] += map[byte]string{'0': "~", '1': "/"}[s[i]]
		default:
			l[len(l)-1] += s[i : i+1]
		}
	}
	return l
}

// join is a pointer's text, byte by byte.
func join(l []string) string {
	var b []byte
	for _, name := range l {
		b = append(b, '/')
		for _, c := range []byte(name) {
			switch c {
			case '~':
				b = append(b, '~', '0')
			case '/':
				b = append(b, '~', '1')
			default:
				b = append(b, c)
			}
		}
	}
	return string(b)
}

// each calls f with all texts of up to so many of the letters.
func each(letters string, most int, f func(string)) {
	var on func(s string)
	on = func(s string) {
		f(s)
		if len(s) < most {
			for i := range len(letters) {
				on(s + letters[i:i+1])
			}
		}
	}
	on("")
}

// P6.1, P6.4: all short texts of chosen bytes.
func TestAllShortTexts(t *testing.T) {
	each("/~012a", 6, func(s string) { checkText(t, s) })
	each("/~01", 8, func(s string) { checkText(t, s) })
}

// P6.1, P6.4: each byte, and each two, as a text, in a name, and behind a ~.
func TestEachByte(t *testing.T) {
	for c := range 256 {
		one := string([]byte{byte(c)})
		for _, s := range []string{one, "/" + one, "/~" + one, "/~0" + one, "/a~" + one + "b", "/a" + one + "b/c" + one, one + "/a"} {
			checkText(t, s)
		}
		for d := range 256 {
			two := one + string([]byte{byte(d)})
			checkText(t, "/"+two)
			checkText(t, two)
		}
	}
}

// P6.1, P6.4: what was shown is parsed, whatever the names are.
func TestShownIsParsed(t *testing.T) {
	each("/~01a", 5, func(name string) {
		for _, l := range [][]string{{name}, {name, ""}, {"", name}, {name, name}, {"a", name, "~1"}} {
			wantNames(t, join(l), l...)
		}
	})
	r := rand.New(rand.NewSource(1))
	for range 20000 {
		l := make([]string, r.Intn(6))
		for i := range l {
			b := make([]byte, r.Intn(8))
			for k := range b {
				b[k] = "/~01-\x00\x7f\xc3\xa9\xff"[r.Intn(10)]
			}
			l[i] = string(b)
		}
		wantNames(t, join(l), l...)
	}
	if Show(nil) != "" || Show([]string{}) != "" {
		t.Error("no names have a text")
	}
}

// P6.1: unlike names have unlike texts.
func TestUnlikeNames(t *testing.T) {
	var names []string
	each("/~01", 3, func(s string) { names = append(names, s) })
	met := map[string][]string{}
	for _, a := range names {
		for _, b := range names {
			for _, l := range [][]string{{a, b}, {a + b}, {a, "", b}, {a + "/" + b}, {a + "~1" + b}, {a + "~0" + b}} {
				s := Show(l)
				if other, ok := met[s]; ok && !slices.Equal(other, l) {
					t.Errorf("%q and %q are both %q", other, l, s)
				}
				met[s] = l
			}
		}
	}
}

// P6.1, P6.4: one byte more, less, or another, anywhere in a pointer.
func TestOneByteOff(t *testing.T) {
	for _, s := range []string{"/a~1b/0", "/~0~1~0/~01//b~00", "/foo/bar/\u00e9~0/-", "/~0/~1"} {
		for i := range len(s) + 1 {
			for _, c := range []string{"/", "~", "0", "1", "2", "a", "\xff"} {
				checkText(t, s[:i]+c+s[i:])
				checkText(t, s[:i])
				if i < len(s) {
					checkText(t, s[:i]+s[i+1:])
					checkText(t, s[:i]+c+s[i+1:])
				}
			}
		}
	}
}

// P6.1: long texts.
func TestLong(t *testing.T) {
	const n = 1 << 20
	wantNames(t, strings.Repeat("/", n), make([]string, n)...)
	wantNames(t, "/"+strings.Repeat("a", n), strings.Repeat("a", n))
	wantNames(t, "/"+strings.Repeat("~1~0", n), strings.Repeat("/~", n))
	wantNames(t, strings.Repeat("/~01", n), slices.Repeat([]string{"~1"}, n)...)
	wantSpot(t, strings.Repeat("/~01", n)+"~", 4*n)
	wantSpot(t, strings.Repeat("a", n)+"~", 0)
}

// wantIndex asks for an element's place, or for none, and zero: P6.1, R3.
func wantIndex(t *testing.T, name string, n int, end bool, want int, ok bool) {
	t.Helper()
	if got, yes := Index(name, n, end); got != want || yes != ok {
		t.Errorf("Index(%q, %d, %v) is %d, %v, want %d, %v", name, n, end, got, yes, want, ok)
	}
}

// P6.1: ordinary places, the one behind the last, and names that mean none.
func TestIndex(t *testing.T) {
	for _, n := range []int{0, 1, 2, 9, 10, 11, 99, 100, 101, 1000, 3000} {
		for k := range n + 20 {
			for _, end := range []bool{false, true} {
				if k < n || end && k == n {
					wantIndex(t, strconv.Itoa(k), n, end, k, true)
				} else {
					wantIndex(t, strconv.Itoa(k), n, end, 0, false)
				}
			}
		}
		wantIndex(t, "-", n, true, n, true)
		wantIndex(t, "-", n, false, 0, false)
		for _, name := range []string{
			"", "00", "01", "001", "-0", "-1", "--", "-a", "+0", "+1", " 0", "0 ", " ", "1 ", "1.", "1.0", "1e0", "1e1", "0x1", "0b1", "0_1", "1_0", "a", "1a", "a1", "0a", "/", "~", "0/", "~0", "1-", "-9223372036854775808",
			"\x00", "0\x00", "1\x00", "\u0661", "1\u0660", "\uff11", "\u2212", "\u22121", "\u00b2", "\xff", "1\xff", "null", "true", "NaN", "Inf",
		} {
			wantIndex(t, name, n, true, 0, false)
			wantIndex(t, name, n, false, 0, false)
		}
	}
}

// P6.1: as many as 18 digits, however great the array.
func TestIndexDigits(t *testing.T) {
	most := int(1e18) - 1
	for _, n := range []int{most, most + 1, most + 2, int(2e18), math.MaxInt} {
		for _, end := range []bool{false, true} {
			for _, k := range []int{0, 1, int(1e17) - 1, int(1e17), most - 1} {
				wantIndex(t, strconv.Itoa(k), n, end, k, true)
			}
			if most < n || end {
				wantIndex(t, strconv.Itoa(most), n, end, most, true)
			} else {
				wantIndex(t, strconv.Itoa(most), n, end, 0, false)
			}
			for _, name := range []string{
				"1000000000000000000", "1000000000000000001", "1999999999999999999", "9223372036854775807", "9223372036854775808", "9999999999999999999", "10000000000000000000", "18446744073709551615", "18446744073709551616", "18446744073709551617",
				"0000000000000000001", "000000000000000001", "01", "1" + strings.Repeat("0", 64), strings.Repeat("9", 1<<16), "00000000000000000000",
			} {
				wantIndex(t, name, n, end, 0, false)
			}
		}
		wantIndex(t, "-", n, true, n, true)
	}
	for _, name := range []string{"18446744073709551616", "18446744073709551617", "36893488147419103232", "4294967296", "4294967297", "999999999999999999"} {
		for n := range 4 {
			wantIndex(t, name, n, false, 0, false)
			wantIndex(t, name, n, true, 0, false)
		}
	}
	s := "123456789123456789"
	for i := range len(s) + 1 {
		k, _ := strconv.Atoi("0" + s[:i])
		wantIndex(t, s[:i], int(1e18), false, k, i > 0)
	}
}

var ofDigits = regexp.MustCompile(`^(0|[1-9][0-9]{0,17})$`)

// checkIndex asks for what the promise says of any name.
func checkIndex(t *testing.T, name string, n int, end bool) {
	t.Helper()
	k, _ := strconv.Atoi(name)
	switch {
	case name == "-" && end:
		wantIndex(t, name, n, end, n, true)
	case ofDigits.MatchString(name) && (k < n || end && k == n):
		wantIndex(t, name, n, end, k, true)
	default:
		wantIndex(t, name, n, end, 0, false)
	}
}

// P6.1: all short names of chosen bytes, and each byte.
func TestIndexAllShort(t *testing.T) {
	check := func(name string) {
		for _, n := range []int{0, 1, 2, 9, 10, 12, 100, 192, 2000, math.MaxInt} {
			checkIndex(t, name, n, false)
			checkIndex(t, name, n, true)
		}
	}
	each("0129-+/:a ", 4, check)
	for c := range 256 {
		one := string([]byte{byte(c)})
		for _, name := range []string{one, one + "0", one + "1", "0" + one, "1" + one, "1" + one + "1"} {
			check(name)
		}
	}
}

// wantGot asks for a value at names, and at their text.
func wantGot(t *testing.T, v api.Value, l []string, want api.Value) {
	t.Helper()
	got, err := Get(v, l)
	if err != nil || !reflect.DeepEqual(got, want) {
		t.Errorf("Get(%+v, %q) is %+v, %v, want %+v", v, l, got, err, want)
	}
	parsed, err := Parse(Show(l))
	if err != nil || !slices.Equal(parsed, l) {
		t.Errorf("%q is parsed as %q, %v", Show(l), parsed, err)
	}
}

// wantNone asks for ErrNone itself, and for an empty value: P6.2, R3.
func wantNone(t *testing.T, v api.Value, l ...string) {
	t.Helper()
	got, err := Get(v, l)
	if err != api.ErrNone || !reflect.DeepEqual(got, api.Value{}) {
		t.Errorf("Get(%+v, %q) is %+v, %v, want ErrNone", v, l, got, err)
	}
}

// P6.2: ordinary values, and pointers.
func TestGet(t *testing.T) {
	one, two, null := digits("1"), digits("2"), api.Value{}
	inner := object(member("b/c", two), member("m~n", array(null, one)))
	list := array(one, inner, array(array(two)))
	v := object(member("", digits("3")), member("-", null), member("0", digits("4")), member("00", boolean(true)), member("a", list), member("a/b", text("x")), member("b", object(member("", object(member("", one))))))
	for s, want := range map[string]api.Value{
		"": v, "/": digits("3"), "/-": null, "/0": digits("4"), "/00": boolean(true), "/a": list, "/a/0": one, "/a/1": inner, "/a/1/b~1c": two, "/a/1/m~0n": array(null, one), "/a/1/m~0n/0": null, "/a/1/m~0n/1": one,
		"/a/2/0": array(two), "/a/2/0/0": two, "/a~1b": text("x"), "/b//": one, "/b/": object(member("", one)), "/b": object(member("", object(member("", one)))),
	} {
		l, err := Parse(s)
		if err != nil {
			t.Fatal(s, err)
		}
		wantGot(t, v, l, want)
	}
	for _, s := range []string{
		"//", "//0", "/-/", "/0/0", "/c", "/A", "/a/", "/a/3", "/a/-", "/a/00", "/a/01", "/a/-1", "/a/+1", "/a/1.0", "/a/b", "/a/0/0", "/a/0/", "/a/1/0", "/a/1/b", "/a/1/b/c", "/a/1/b~1c/0", "/a/1/m~0n/2", "/a/1/m~0n/-", "/a/1/m~0n/0/0",
		"/a/2/1", "/a/2/0/1", "/a/2/0/0/0", "/a/2/0/0/", "/a/b/c", "/a~1b/0", "/a~1b/", "/b///", "/b/a", "/b//a", "/000", "/1", "/~0", "/ ", "/b~1", "/a~0b",
	} {
		l, err := Parse(s)
		if err != nil {
			t.Fatal(s, err)
		}
		wantNone(t, v, l...)
	}
}

// P6.2: of values of each Kind, with each kind of name.
func TestGetOfKinds(t *testing.T) {
	names := []string{"", "-", "0", "00", "01", "1", "10", "2", "a", "null", "S", "L", "-0", "999999999999999999"}
	plain := []api.Value{{}, boolean(false), boolean(true), digits(""), digits("1"), text(""), text("0"), text("a"), text("abc"), array(), object(), {Kind: api.Array, L: []api.Value{}}, {Kind: api.Object, M: []api.Member{}}}
	for _, v := range plain {
		for _, in := range []api.Value{v, array(v), object(member("k", v))} {
			wantGot(t, in, nil, in)
			wantGot(t, in, []string{}, in)
		}
		wantGot(t, array(v), []string{"0"}, v)
		wantGot(t, object(member("k", v)), []string{"k"}, v)
		for _, name := range names {
			wantNone(t, v, name)
			wantNone(t, v, name, "0")
			wantNone(t, array(v), "0", name)
			wantNone(t, object(member("k", v)), "k", name)
			// A name within an Object is its key, whatever it would mean in an Array.
			wantGot(t, object(member(name, v)), []string{name}, v)
			wantGot(t, array(object(member(name, v), member("~", boolean(true)))), []string{"0", name}, v)
			for _, other := range names {
				if other != name {
					wantNone(t, object(member(name, v)), other)
				}
			}
		}
	}
	list := array(slices.Repeat([]api.Value{text("x")}, 12)...)
	for i := range list.L {
		list.L[i] = text(strconv.Itoa(i))
		wantGot(t, list, []string{strconv.Itoa(i)}, list.L[i])
	}
	for _, name := range []string{"", "-", "12", "13", "00", "01", "011", "-1", "+1", "1 ", "a", "1e0", "1000000000000000000", "18446744073709551616"} {
		wantNone(t, list, name)
	}
}

// randomValue may be; keys are often such as mean an element, too.
func randomValue(r *rand.Rand, levels int) api.Value {
	kinds := []int{api.Null, api.Bool, api.Number, api.String, api.Array, api.Object, api.Array, api.Object}
	if levels == 0 {
		kinds = kinds[:4]
	}
	v := api.Value{Kind: kinds[r.Intn(len(kinds))]}
	switch v.Kind {
	case api.Bool:
		v.B = r.Intn(2) == 0
	case api.Number:
		v.N = api.Num{Digits: strconv.Itoa(11 + 10*r.Intn(50))}
	case api.String:
		v.S = strconv.Itoa(r.Intn(50))
	case api.Array:
		for range r.Intn(4) {
			v.L = append(v.L, randomValue(r, levels-1))
		}
	case api.Object:
		for _, k := range names() {
			if r.Intn(4) == 0 {
				v.M = append(v.M, member(k, randomValue(r, levels-1)))
			}
		}
	}
	return v
}

// names are those that random values and pointers have; they rise.
func names() []string { return []string{"", "-", "/", "0", "00", "1", "2", "3", "a", "~", "~1"} }

// all tells each pointer into v, as a text made here, and what is there.
func all(v api.Value) map[string]api.Value {
	l := map[string]api.Value{"": v}
	put := func(name string, x api.Value) {
		for s, y := range all(x) {
			l[join([]string{name})+s] = y
		}
	}
	for i, x := range v.L {
		put(strconv.Itoa(i), x)
	}
	for _, m := range v.M {
		put(m.Key, m.V)
	}
	return l
}

// P6.2: of random values, all that is there is got, and nothing else.
func TestGetRandom(t *testing.T) {
	r := rand.New(rand.NewSource(2))
	there, none := 0, 0
	for i := range 4000 {
		v := randomValue(r, i%6)
		known := all(v)
		for s, want := range known {
			wantGot(t, v, split(s), want)
			there++
			for _, name := range names() {
				if _, ok := known[s+join([]string{name})]; !ok {
					wantNone(t, v, append(split(s), name)...)
					wantNone(t, v, append(split(s), name, names()[r.Intn(len(names()))])...)
					none++
				}
			}
		}
	}
	if there < 10000 || none < 10000 {
		t.Error("too few of one kind:", there, none)
	}
}

// P6.2: on in what was got, name by name, is the same as all at once.
func TestGetOnAndOn(t *testing.T) {
	r := rand.New(rand.NewSource(3))
	for i := range 1000 {
		v := randomValue(r, 2+i%4)
		for s := range all(v) {
			l := split(s)
			for k := range len(l) + 1 {
				ahead, err := Get(v, l[:k])
				if err != nil {
					t.Fatalf("Get(%+v, %q): %v", v, l[:k], err)
				}
				want, _ := Get(v, l)
				wantGot(t, ahead, l[k:], want)
			}
		}
	}
}

// P6.2: down to the document's bound of levels, and in long lists.
func TestGetDeepAndLong(t *testing.T) {
	v, l := text("bottom"), []string{}
	for k := range 1 << 16 {
		if k%2 == 0 {
			v, l = array(boolean(true), v), append(l, "1")
		} else {
			v, l = object(member("1", v), member("2", digits("1"))), append(l, "1")
		}
	}
	if got, err := Get(v, l); err != nil || got.S != "bottom" {
		t.Error(got.Kind, err)
	}
	for _, more := range []string{"1", "", "-", "bottom"} {
		if got, err := Get(v, append(slices.Clone(l), more)); err != api.ErrNone || got.Kind != api.Null {
			t.Error(more, got.Kind, err)
		}
	}
	list, members := array(), object()
	for k := range 3000 {
		list.L, members.M = append(list.L, text(strconv.Itoa(k))), append(members.M, member(strconv.Itoa(10000+k), digits("7")))
	}
	for k := range 3000 {
		if got, err := Get(list, []string{strconv.Itoa(k)}); err != nil || got.S != strconv.Itoa(k) {
			t.Error(k, got.S, err)
		}
		if got, err := Get(members, []string{strconv.Itoa(10000 + k)}); err != nil || got.N.Digits != "7" {
			t.Error(k, got.N, err)
		}
	}
	for _, name := range []string{"3000", "-", "13000", "9999", "03"} {
		for _, v := range []api.Value{list, members} {
			if got, err := Get(v, []string{name}); err != api.ErrNone || got.Kind != api.Null {
				t.Error(name, got.Kind, err)
			}
		}
	}
}

// R2: nothing that is handed in is changed, and what was handed in before doesn't matter.
func TestNothingChangedOrKept(t *testing.T) {
	r := rand.New(rand.NewSource(4))
	for i := range 500 {
		v := randomValue(r, i%5)
		before := clone(v)
		for s := range all(v) {
			l := append(make([]string, 0, 20), split(s)...)
			behind := l[len(l):cap(l)]
			was := slices.Clone(l)
			Show(l)
			Get(v, l)
			Get(v, append(slices.Clone(l), "none"))
			if !slices.Equal(l, was) || slices.ContainsFunc(behind, func(s string) bool { return s != "" }) {
				t.Fatalf("changed: %q, was %q", l, was)
			}
		}
		if !reflect.DeepEqual(v, before) {
			t.Fatalf("changed: %+v, was %+v", v, before)
		}
	}
	names := []string{"a", "b"}
	if Show(names) != "/a/b" {
		t.Error(Show(names))
	}
	names[0] = "~"
	if Show(names) != "/~0/b" {
		t.Error(Show(names))
	}
	v := object(member("a", digits("1")))
	wantGot(t, v, []string{"a"}, digits("1"))
	v.M[0].V = text("x")
	wantGot(t, v, []string{"a"}, text("x"))
}

// R2: names that are told are the caller's own, and so is an error.
func TestTellingAnew(t *testing.T) {
	for _, s := range []string{"/a/b/c", "/~0/~1", "/"} {
		l, _ := Parse(s)
		want := slices.Clone(l)
		l[0] = "changed"
		_ = append(l, "more")
		wantNames(t, s, want...)
	}
	_, err := Parse("/a~")
	err.(*api.Spot).At = 77
	wantSpot(t, "/a~", 2)
}

// R2: what else is asked at the same time doesn't matter.
func TestAtOnce(t *testing.T) {
	r := rand.New(rand.NewSource(5))
	v := array()
	for range 100 {
		v.L = append(v.L, randomValue(r, 4))
	}
	known := all(v)
	var readers sync.WaitGroup
	for range 8 {
		readers.Go(func() {
			for s, want := range known {
				l, err := Parse(s)
				if err != nil || Show(l) != s {
					t.Errorf("Parse(%q) is %q, %v", s, l, err)
				}
				if got, err := Get(v, l); err != nil || !reflect.DeepEqual(got, want) {
					t.Errorf("Get of %q is %+v, %v", s, got, err)
				}
				wantSpot(t, s+"/~", len(s)+1)
			}
		})
	}
	readers.Wait()
}

// P6.1, P6.4: any text, as a pointer, as a name, and as an element's place.
func FuzzParse(f *testing.F) {
	f.Add("/a~1b/0", 1)
	f.Add("/~01/~", 12)
	f.Add("12", 12)
	f.Fuzz(func(t *testing.T, s string, n int) {
		checkText(t, s)
		checkText(t, "/"+s)
		wantNames(t, join([]string{s, "a", s}), s, "a", s)
		if n >= 0 {
			checkIndex(t, s, n, false)
			checkIndex(t, s, n, true)
		}
	})
}
