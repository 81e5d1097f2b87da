package parse

import (
	"encoding/json"
	"math/big"
	"math/rand"
	"reflect"
	"regexp"
	"slices"
	"strconv"
	"strings"
	"sync"
	"testing"
	"unicode/utf8"
	"unsafe"

	"doublet/api"
	"doublet/num"
	"doublet/str"
	"doublet/value"
)

func boolean(b bool) api.Value                { return api.Value{Kind: api.Bool, B: b} }
func number(n api.Num) api.Value              { return api.Value{Kind: api.Number, N: n} }
func digits(s string) api.Value               { return number(api.Num{Digits: s}) }
func text(s string) api.Value                 { return api.Value{Kind: api.String, S: s} }
func array(l ...api.Value) api.Value          { return api.Value{Kind: api.Array, L: l} }
func object(l ...api.Member) api.Value        { return api.Value{Kind: api.Object, M: l} }
func member(k string, v api.Value) api.Member { return api.Member{Key: k, V: v} }

// equal holds values against each other field by field; a list of no elements may be nil or empty.
func equal(a, b api.Value) bool {
	if a.Kind != b.Kind || a.B != b.B || a.N != b.N || a.S != b.S {
		return false
	}
	return slices.EqualFunc(a.L, b.L, equal) &&
		slices.EqualFunc(a.M, b.M, func(a, b api.Member) bool { return a.Key == b.Key && equal(a.V, b.V) })
}

func wantValue(t *testing.T, b string, want api.Value) {
	t.Helper()
	if v, err := Parse(b); err != nil || !equal(v, want) || !value.May(v) {
		t.Errorf("Parse(%.120q) = %.200s, %v; want %.200s", b, canonical(v), err, canonical(want))
	}
}

// wantSpot also asks for a zero value beside the error (R3), and for a Spot that nothing wraps.
func wantSpot(t *testing.T, b string, code api.Code, at int) {
	t.Helper()
	v, err := Parse(b)
	spot, ok := err.(*api.Spot)
	if !ok || *spot != (api.Spot{At: at, Code: code}) || !reflect.DeepEqual(v, api.Value{}) {
		t.Errorf("Parse(%.120q) = %.200s, %v; want %v at %d alone", b, canonical(v), err, code, at)
	}
}

// P4.1: ordinary texts.
func TestOrdinary(t *testing.T) {
	one, two, null := digits("1"), digits("2"), api.Value{}
	for b, want := range map[string]api.Value{
		"null": null, "true": boolean(true), "false": boolean(false),
		"0": digits(""), "-0": digits(""), "1": one, "1.0": one, "10e-1": one, "0.1E+1": one,
		"-0.150": number(api.Num{Neg: true, Digits: "15", Exp: -2}), "1e1000": number(api.Num{Digits: "1", Exp: 1000}),
		`""`: text(""), `"a"`: text("a"), `"null"`: text("null"), `"a\u0041\n\""`: text("aA\n\""), `"\ud83d\ude00é"`: text("😀é"),
		`"[1, {}] // :"`: text("[1, {}] // :"), `"\u0000"`: text("\x00"),
		"[]": array(), "[null]": array(null), "[1,2]": array(one, two), "[2,1,2]": array(two, one, two),
		"[[]]": array(array()), "[[],[]]": array(array(), array()), "[[1],[2,[1]]]": array(array(one), array(two, array(one))),
		"{}": object(), `{"a":1}`: object(member("a", one)), `{"":null}`: object(member("", null)),
		`{"a":{"a":{"a":[]}}}`: object(member("a", object(member("a", object(member("a", array())))))),
		`[{"a":1},{"a":2}]`:    array(object(member("a", one)), object(member("a", two))),
		`{"b":1,"a":[]}`:       object(member("a", array()), member("b", one)),
		`[true,"x",-1,{},[null,false]]`: array(boolean(true), text("x"), number(api.Num{Neg: true, Digits: "1"}),
			object(), array(null, boolean(false))),
		`{"x":[{"y":[0]}],"":{"z":"\\"}}`: object(member("", object(member("z", text(`\`)))),
			member("x", array(object(member("y", array(digits(""))))))),
	} {
		wantValue(t, b, want)
	}
}

// P4.1: members are told by rising keys, byte by byte, however they stand there.
func TestKeysRise(t *testing.T) {
	keys := []string{
		"", "\x00", "\x00\x00", " ", "!", "\"", "-", "/", "0", "1", "10", "2", "A", "B", "Z", "\\", "_", "a", "aA", "aa", "ab", "b", "~", "\x7f",
		"\u0080", "\u00e9", "\u07ff", "\u0800", "\u20ac", "\ud7ff", "\ue000", "\ufffd", "\uffff", "\U00010000", "\U0010ffff",
	}
	var want []api.Member
	for i, k := range keys {
		want = append(want, member(k, digits(strconv.Itoa(i*20+1))))
	}
	r := rand.New(rand.NewSource(1))
	for range 300 {
		var b strings.Builder
		for i, k := range r.Perm(len(keys)) {
			b.WriteString([]string{"{", ",", ", "}[min(i, 1+r.Intn(2))] + spelled(r, keys[k]) + ":" + strconv.Itoa(k*20+1))
		}
		wantValue(t, b.String()+"}", object(want...))
		wantValue(t, "["+b.String()+"}]", array(object(want...)))
	}
}

// spelled is s in quotes, in one of its many ways.
func spelled(r *rand.Rand, s string) string {
	if r.Intn(2) == 0 {
		return str.Quote(s)
	}
	var b strings.Builder
	for _, c := range s {
		switch {
		case c > 0xffff || c >= 32 && c != '"' && c != '\\' && r.Intn(2) == 0:
			b.WriteRune(c)
		default:
			h := strconv.FormatInt(int64(c)+0x10000, 16)[1:]
			b.WriteString(`\u` + []string{h, strings.ToUpper(h)}[r.Intn(2)])
		}
	}
	return `"` + b.String() + `"`
}

// P4.1: blanks stand ahead of and behind each sign and value, and nothing else does.
func TestBlanks(t *testing.T) {
	signs := []string{"{", `"b"`, ":", "[", "1", ",", "null", ",", "{", "}", ",", "[", "]", "]", ",", `"a"`, ":", `"x y"`, ",", `"c"`, ":", "-1.5e1", "}"}
	want := object(member("a", text("x y")), member("b", array(digits("1"), api.Value{}, object(), array())), member("c", number(api.Num{Neg: true, Digits: "15"})))
	wantValue(t, strings.Join(signs, ""), want)
	blanks := []string{" ", "\t", "\n", "\r", "\r\n", " \t\n\r \t\n\r", strings.Repeat(" ", 100)}
	for _, s := range blanks {
		wantValue(t, strings.Join(signs, s), want)
		wantValue(t, s+strings.Join(signs, s)+s, want)
	}
	for i := 0; i <= len(signs); i++ {
		ahead, behind := strings.Join(signs[:i], ""), strings.Join(signs[i:], "")
		for _, s := range blanks {
			wantValue(t, ahead+s+behind, want)
		}
		for _, s := range []string{"\x00", "\v", "\f", "\b", "\x1f", "\x7f", "\u0085", "\u00a0", "\u2028", "\u3000", "\ufeff", "/**/", "//\n", "#", "x", "'", "\\", "\xff"} {
			wantSpot(t, ahead+s+behind, api.ErrForm, len(ahead))
			wantSpot(t, ahead+" "+s+behind, api.ErrForm, len(ahead)+1)
		}
	}
	for _, s := range blanks {
		wantSpot(t, s, api.ErrForm, len(s))
	}
	wantSpot(t, "", api.ErrForm, 0)
}

// P4.1: no blank stands within a word or a number.
func TestNoBlankWithin(t *testing.T) {
	for _, s := range []string{"null", "true", "false"} {
		for i := 1; i < len(s); i++ {
			wantSpot(t, s[:i]+" "+s[i:], api.ErrForm, i)
			wantSpot(t, "["+s[:i]+"\n"+s[i:]+"]", api.ErrForm, 1+i)
		}
	}
	wantSpot(t, "- 1", api.ErrForm, 1)
	wantSpot(t, "1 2", api.ErrForm, 2)
	wantSpot(t, "1 .5", api.ErrForm, 2)
	wantSpot(t, "1. 5", api.ErrForm, 2)
	wantSpot(t, "1 e5", api.ErrForm, 2)
	wantSpot(t, "1e 5", api.ErrForm, 2)
	wantSpot(t, "1e+ 5", api.ErrForm, 3)
	wantValue(t, `" a b "`, text(" a b "))
}

// P4.1: words, letter by letter.
func TestWords(t *testing.T) {
	for _, s := range []string{"null", "true", "false"} {
		for i := range len(s) {
			wantSpot(t, s[:i], api.ErrForm, i)
			wantSpot(t, "[1,"+s[:i], api.ErrForm, 3+i)
			for c := range 256 {
				if byte(c) != s[i] && i > 0 {
					wantSpot(t, s[:i]+string([]byte{byte(c)})+s[i+1:], api.ErrForm, i)
				}
			}
			wantSpot(t, s[:i]+strings.ToUpper(s[i:]), api.ErrForm, i)
		}
		for c := range 256 {
			if !strings.Contains(" \t\n\r", string([]byte{byte(c)})) {
				wantSpot(t, s+string([]byte{byte(c)}), api.ErrForm, len(s))
			}
		}
		wantSpot(t, s+s, api.ErrForm, len(s))
		wantSpot(t, s+" "+s, api.ErrForm, len(s)+1)
	}
}

// P4.1: behind each of these, which bytes can stand: any other one is told at once, and so is the text's end.
func TestEachByte(t *testing.T) {
	const blanks, begins = " \t\n\r", "ntf-0123456789\"[{"
	for ahead, can := range map[string]string{
		"": blanks + begins, "\n": blanks + begins, "[": blanks + begins + "]", "[ ": blanks + begins + "]", "[1,": blanks + begins, "[[],": blanks + begins,
		`{"a":`: blanks + begins, `{"a" : `: blanks + begins, `{"a":1,"b":`: blanks + begins, `[{"a":[`: blanks + begins + "]",
		"{": blanks + `"}`, "[{": blanks + `"}`, `{"a":1,`: blanks + `"`, `{"a":{},`: blanks + `"`, `{"a":{`: blanks + `"}`,
		`{"a"`: blanks + ":", `{"a" `: blanks + ":", `{"a":1,"b"`: blanks + ":",
		"[null": blanks + ",]", "[null ": blanks + ",]", "[[]": blanks + ",]", "[{}": blanks + ",]", `[""`: blanks + ",]", "[1,true": blanks + ",]", `[{"a":false}`: blanks + ",]",
		`{"a":null`: blanks + ",}", `{"a":"" `: blanks + ",}", `{"a":[]`: blanks + ",}", `[{"a":{}`: blanks + ",}", `{"":[],"a":true`: blanks + ",}",
		"null": blanks, "true ": blanks, `""`: blanks, "[]": blanks, "{}": blanks, "[[1]]\n": blanks, `{"a":1}`: blanks,
		"n": "u", "nu": "l", "nul": "l", "t": "r", "tr": "u", "tru": "e", "f": "a", "fa": "l", "fal": "s", "fals": "e",
		"-": "0123456789", "0": blanks + ".eE", "-0": blanks + ".eE", "1": blanks + ".eE0123456789", "-10": blanks + ".eE0123456789", "0.": "0123456789", "1.": "0123456789",
		"0.0": blanks + "eE0123456789", "1.5": blanks + "eE0123456789", "1e": "+-0123456789", "0E": "+-0123456789", "1.5e": "+-0123456789", "1e+": "0123456789", "1E-": "0123456789",
		"1e0": blanks + "0123456789", "1e+5": blanks + "0123456789", "0.5E-05": blanks + "0123456789",
		"[0": blanks + ",].eE", "[1": blanks + ",].eE0123456789", "[1.5": blanks + ",]eE0123456789", "[1e5": blanks + ",]0123456789",
		`{"a":-0`: blanks + ",}.eE", `{"a":1`: blanks + ",}.eE0123456789", `{"a":1.5`: blanks + ",}eE0123456789", `{"a":1e5`: blanks + ",}0123456789",
	} {
		for c := range 256 {
			at := len(ahead)
			if strings.IndexByte(can, byte(c)) >= 0 {
				at++
			}
			// A 0 stands nowhere.
			wantSpot(t, ahead+string([]byte{byte(c), 0}), api.ErrForm, at)
		}
		if !json.Valid([]byte(ahead)) {
			wantSpot(t, ahead, api.ErrForm, len(ahead))
		}
	}
}

// P4.1: ErrForm, by its definition: the first byte that no text has behind those ahead of it.
func TestAllShort(t *testing.T) {
	const signs = "[]{},:\"01-.e+nul \nx"
	var all func(b string, left int)
	all = func(b string, left int) {
		if json.Valid([]byte(b)) {
			wantValue(t, b, decoded(t, b))
		} else {
			wantSpot(t, b, api.ErrForm, len(b))
		}
		for i := 0; left > 0 && i < len(signs); i++ {
			c := signs[i : i+1]
			if strings.Count(b, `"`)%2 == 1 && !strings.Contains("\"x\n", c) {
				continue // much the same in quotes
			}
			if longExponent.MatchString(b + c) {
				continue // a number that may not be
			}
			if goesOn(b + c) {
				all(b+c, left-1)
				continue
			}
			for _, behind := range []string{"", c, "1", "]", "\"", "\xff", "}}"} {
				wantSpot(t, b+c+behind, api.ErrForm, len(b))
			}
		}
	}
	all("", 6)
}

var longExponent = regexp.MustCompile(`e[+-]?1[01]{3}`)

// goesOn tells whether something behind b makes it a text: an end of what it breaks off in, what is still asked for, and all signs that close.
func goesOn(b string) bool {
	closing := ""
	for i, quotes := 0, false; i < len(b); i++ {
		switch {
		case b[i] == '"':
			quotes = !quotes
		case quotes:
		case b[i] == '[':
			closing = "]" + closing
		case b[i] == '{':
			closing = "}" + closing
		case (b[i] == ']' || b[i] == '}') && closing != "":
			closing = closing[1:]
		}
	}
	for _, end := range []string{"", `"`, "0", "ull", "ll", "l"} {
		for _, more := range []string{"", "0", ":0", `"":0`} {
			if json.Valid([]byte(b + end + more + closing)) {
				return true
			}
		}
	}
	return false
}

// decoded is a text's value as the library has it, by what its keys and numbers are to layers 1 and 3.
func decoded(t *testing.T, b string) api.Value {
	t.Helper()
	d := json.NewDecoder(strings.NewReader(b))
	d.UseNumber()
	var x any
	if err := d.Decode(&x); err != nil {
		t.Fatalf("%q: %v", b, err)
	}
	return fromAny(t, x)
}

func fromAny(t *testing.T, x any) api.Value {
	t.Helper()
	switch x := x.(type) {
	case bool:
		return boolean(x)
	case json.Number:
		return number(mustNum(t, x.String()))
	case string:
		return text(x)
	case []any:
		v := array()
		for _, y := range x {
			v.L = append(v.L, fromAny(t, y))
		}
		return v
	case map[string]any:
		v := object()
		for k, y := range x {
			v.M = append(v.M, member(k, fromAny(t, y)))
		}
		slices.SortFunc(v.M, func(a, b api.Member) int { return strings.Compare(a.Key, b.Key) })
		return v
	}
	return api.Value{}
}

func mustNum(t *testing.T, s string) api.Num {
	t.Helper()
	n, err := num.Parse(s)
	if err != nil {
		t.Fatalf("num.Parse(%.80q): %v", s, err)
	}
	return n
}

// P4.1: a quoted text's errors are layer 2's, with their places in the whole text, wherever it stands.
func TestQuotedErrors(t *testing.T) {
	for _, ahead := range []string{"", " \n", "[", "[ \"x\", ", `{"k":`, `{"k":1,"l" : `, "{", "{ ", `{"k":1, `, `[{"k":["\u0041"],`} {
		for _, c := range []struct {
			s    string
			code api.Code
			at   int
		}{
			{`"`, api.ErrForm, 1}, {`"a`, api.ErrForm, 2}, {"\"a\n\"", api.ErrForm, 2}, {"\"\x00\"", api.ErrForm, 1}, {`"\`, api.ErrForm, 2}, {`"\x"`, api.ErrForm, 2},
			{`"\u12"`, api.ErrForm, 5}, {`"\u12G4"`, api.ErrForm, 5}, {`"é\u`, api.ErrForm, 5},
			{"\"\xff\"", api.ErrText, 1}, {"\"ab\xc0\x80", api.ErrText, 3}, {"\"\xed\xa0\x80\"", api.ErrText, 1}, {"\"é\xe2\x82\"", api.ErrText, 3},
			{`"\ude00"`, api.ErrText, 1}, {`"a\ud83d"`, api.ErrText, 2}, {`"\ud83d\u0041"`, api.ErrText, 1}, {`"\ud83d\u00`, api.ErrText, 1},
		} {
			k := len(ahead)
			wantSpot(t, ahead+c.s, c.code, k+c.at)
			_, _, err := str.Unquote(ahead+c.s, k)
			if _, told := Parse(ahead + c.s); !reflect.DeepEqual(told, err) {
				t.Errorf("%q: %v, and of layer 2 %v", ahead+c.s, told, err)
			}
			if len(c.s) < 2 || !strings.HasSuffix(c.s, `"`) {
				continue // what stands behind may be of the text
			}
			for _, behind := range []string{":", ":1}", "]", "x", "\xff", "\"", ",[[["} {
				wantSpot(t, ahead+c.s+behind, c.code, k+c.at)
			}
		}
	}
}

// P4.1: keys are texts in quotes, and nothing else.
func TestKeysOnly(t *testing.T) {
	for _, key := range []string{"1", "null", "true", "a", "'a'", "[]", "{}", "-", "\xff", "é", ":", ",", "]", "\\\"a\\\""} {
		wantSpot(t, "{"+key+":1}", api.ErrForm, 1)
		wantSpot(t, `{"a":1,`+key+":1}", api.ErrForm, 7)
		wantSpot(t, `{"a":1, `+key+":1}", api.ErrForm, 8)
	}
	wantSpot(t, "{,}", api.ErrForm, 1)
	wantSpot(t, `{"a":1,}`, api.ErrForm, 7)
	wantSpot(t, `{"a":1,,"b":1}`, api.ErrForm, 7)
	wantSpot(t, `{"a"}`, api.ErrForm, 4)
	wantSpot(t, `{"a",1}`, api.ErrForm, 4)
	wantSpot(t, `{"a":}`, api.ErrForm, 5)
	wantSpot(t, `{"a"::1}`, api.ErrForm, 5)
	wantSpot(t, `{"a":1:2}`, api.ErrForm, 6)
	wantSpot(t, `{"a":1 "b":2}`, api.ErrForm, 7)
	wantSpot(t, `{"a":1]`, api.ErrForm, 6)
	wantSpot(t, `["a":1]`, api.ErrForm, 4)
	wantSpot(t, `["a"}`, api.ErrForm, 4)
}

// P4.1: numbers that may not be are told at their first byte, once their text has ended.
func TestNumbersTooLarge(t *testing.T) {
	ones := strings.Repeat("1", 61)
	large := []string{
		"1e1001", "-1e1001", "1E+1001", "1e-1001", "-0.1e-1000", "10e1000", "1.5e-1000", ones, "-" + ones, "1." + ones, "0." + ones, ones + "e-5", ones + ".0",
		"1" + strings.Repeat("0", 1001), "0." + strings.Repeat("0", 1000) + "1", "1e99999999999999999999", "-1.5E-" + strings.Repeat("9", 300),
	}
	for _, s := range large {
		for _, ahead := range []string{"", " ", "[", "[1, ", `{"a":`, `{"a":1,"b": `} {
			for _, behind := range []string{"", " ", ",", "]", "}", "x", ":", "\"", "\xff", "\x00", " x", "-", "[", ",1]", "]]"} {
				wantSpot(t, ahead+s+behind, api.ErrLarge, len(ahead))
			}
		}
		// A letter that goes on, or ends, a number: its text isn't at its end.
		wantSpot(t, "["+s+"9", api.ErrLarge, 1)
		if !strings.ContainsAny(s, "eE") {
			wantSpot(t, s+"e", api.ErrForm, len(s)+1)
			wantSpot(t, s+"ex", api.ErrForm, len(s)+1)
			wantSpot(t, s+"e+]", api.ErrForm, len(s)+2)
		} else {
			wantSpot(t, s+"e", api.ErrLarge, 0)
			wantSpot(t, s+".", api.ErrLarge, 0)
			wantSpot(t, s+"+", api.ErrLarge, 0)
		}
		if strings.Trim(s, "-0123456789") == "" {
			wantSpot(t, s+".", api.ErrForm, len(s)+1)
			wantSpot(t, s+".x", api.ErrForm, len(s)+1)
			wantSpot(t, s+".e5", api.ErrForm, len(s)+1)
		}
	}
	wantSpot(t, "[1e1001,1e1001]", api.ErrLarge, 1)
	wantSpot(t, "[1,1e1001,1e1001]", api.ErrLarge, 3)
	wantSpot(t, "01e1001", api.ErrForm, 1)
	wantSpot(t, "1e1001e1001", api.ErrLarge, 0)
	wantSpot(t, "1 1e1001", api.ErrForm, 2)
}

// P4.1: the greatest and longest numbers that may be.
func TestNumbersMay(t *testing.T) {
	sixty := strings.Repeat("7", 60)
	for _, s := range []string{
		sixty, "-" + sixty + "e1000", "0." + strings.Repeat("0", 940) + sixty, sixty + strings.Repeat("0", 1000), "1e1000", "1e-1000", "-1E-1000", "10e999", "0.1e1001",
		"0e99999999999999999999", "-0.000e-1001", "1e0000000000000000000000000005", "1e+007", "0.0012", "12.5E+3", "100.00", "0.50",
		"1" + strings.Repeat("0", 9000) + "e-9000", "0." + strings.Repeat("0", 8999) + "1e9000",
	} {
		n := number(mustNum(t, s))
		wantValue(t, s, n)
		wantValue(t, "["+s+"]", array(n))
		wantValue(t, `{"a":`+s+"}", object(member("a", n)))
		wantValue(t, "[1,"+s+" ,2]", array(digits("1"), n, digits("2")))
	}
}

// P4.1: within 32 arrays and objects nothing opens any more.
func TestDepth(t *testing.T) {
	r := rand.New(rand.NewSource(2))
	opens, closes := []string{"[", `{"a":`, "[ 1 ,", ` { "" : [ [ ] , { } ] , "k":`}, []string{"]", "}", "]", "}"}
	for range 300 {
		for _, levels := range []int{1, 16, 31, 32, 33, 34, 50} {
			ahead, behind := "", ""
			bottom := 0
			for k := range levels {
				// The last one has arrays in it, of which there may be too many.
				i := r.Intn(len(opens) - min(1, k/28))
				if k == 32 {
					bottom = len(ahead) + strings.IndexAny(opens[i], "[{")
				}
				ahead, behind = ahead+opens[i], closes[i]+behind
			}
			b := ahead + "true" + behind
			if levels > 32 {
				wantSpot(t, b, api.ErrDepth, bottom)
				wantSpot(t, b[:bottom+1], api.ErrDepth, bottom)
				wantSpot(t, b[:bottom+1]+"\x00", api.ErrDepth, bottom)
				continue
			}
			if v, err := Parse(b); err != nil || value.Depth(v) < levels || !equal(v, decoded(t, b)) {
				t.Errorf("%d levels: %v", levels, err)
			}
		}
	}
}

// P4.1: what is closed is no depth any more, and what can't stand there is told ahead of it.
func TestDepthEdges(t *testing.T) {
	open, shut := strings.Repeat("[", 32), strings.Repeat("]", 32)
	for _, s := range []string{"[", "{", "[]", "{}", "[1", "[[[", "[x", "{x"} {
		wantSpot(t, open+s, api.ErrDepth, 32)
		wantSpot(t, open+" "+s, api.ErrDepth, 33)
		wantSpot(t, open+"1,"+s, api.ErrDepth, 34)
		wantSpot(t, open+"1"+s, api.ErrForm, 33)
		wantSpot(t, open+shut+s, api.ErrForm, 64)
		wantSpot(t, open+"]"+s, api.ErrForm, 33)
		wantSpot(t, open+"],["+s, api.ErrDepth, 35)
		wantSpot(t, open[1:]+`{"a":1,`+s, api.ErrForm, 38)
		wantSpot(t, open[1:]+`{"a"`+s, api.ErrForm, 35)
		wantSpot(t, open[1:]+"{"+s, api.ErrForm, 32)
		wantSpot(t, open[1:]+`{"a":`+s, api.ErrDepth, 36)
	}
	wantSpot(t, strings.Repeat("[", api.MaxText), api.ErrDepth, 32)
	wantSpot(t, strings.Repeat(`{"":`, api.MaxText/4), api.ErrDepth, 128)
	wide := strings.Repeat("["+open[2:]+shut[2:]+"],", 200)
	if v, err := Parse("[" + wide + "[]]"); err != nil || len(v.L) != 201 || value.Depth(v) != 32 {
		t.Error("many deep values:", err)
	}
	if v, err := Parse(open + `"` + open + `"` + shut); err != nil || value.Depth(v) != 32 {
		t.Error("signs in quotes:", err)
	}
}

// P4.1: a key that its object has already is told at its ", once it has ended.
func TestTwice(t *testing.T) {
	for _, twin := range [][]string{
		{`"a"`, `"\u0061"`}, {`""`}, {`"é"`, `"\u00e9"`, `"\u00E9"`}, {`"/"`, `"\/"`, `"\u002f"`}, {`"\n"`, `"\u000a"`, `"\u000A"`},
		{`"\""`, `"\u0022"`}, {`"😀"`, `"\ud83d\ude00"`, `"\uD83D\uDE00"`}, {`"\\"`, `"\u005c"`}, {`"\u0000"`},
	} {
		for _, a := range twin {
			for _, b := range twin {
				for _, between := range []string{":1,", ` : [] , `, `:{},"m":2,`, `:{"a":{"":1}},"z\n":null, `} {
					ahead := "{" + a + between
					for _, behind := range []string{":2}", "", " ", "x", "}", ":", "\x00", "\xff", ",", `"`, ":1e1001", ":" + strings.Repeat("[", 40)} {
						wantSpot(t, ahead+b+behind, api.ErrTwice, len(ahead))
						wantSpot(t, `[{},{"a":`+ahead+b+behind, api.ErrTwice, 9+len(ahead))
					}
					if len(b) > 2 {
						wantSpot(t, ahead+b[:1], api.ErrForm, len(ahead)+1)
						wantSpot(t, ahead+b[:1]+"\n", api.ErrForm, len(ahead)+1)
						wantSpot(t, ahead+b[:1]+"\xff", api.ErrText, len(ahead)+1)
					}
				}
			}
		}
	}
}

// P4.1: unlike keys, keys of other objects, and texts that are no keys aren't twice.
func TestNotTwice(t *testing.T) {
	one := digits("1")
	wantValue(t, `{"a":{"a":1},"b":{"a":1}}`, object(member("a", object(member("a", one))), member("b", object(member("a", one)))))
	wantValue(t, `[{"a":1},{"a":1},"a","a"]`, array(object(member("a", one)), object(member("a", one)), text("a"), text("a")))
	wantValue(t, `{"a":"a","b":"a","A":"b"}`, object(member("A", text("b")), member("a", text("a")), member("b", text("a"))))
	wantValue(t, `{"a":1,"a ":1,"a\u0000":1,"\\u0061":1}`, object(member(`\u0061`, one), member("a", one), member("a\x00", one), member("a ", one)))
	wantValue(t, "{\"\u00e9\":1,\"e\u0301\":1}", object(member("e\u0301", one), member("\u00e9", one)))
	wantSpot(t, `{"a":{"b":1},"b":1,"c":{"a":1},"a":1}`, api.ErrTwice, 31)
	wantSpot(t, `{"a":{"b":1,"a":{"a":0,"b":0},"b":1}}`, api.ErrTwice, 30)
	wantSpot(t, `{"c":1,"b":1,"a":1,"b":1,"a":1}`, api.ErrTwice, 19)
}

// P4.1: more than 20000 bytes are too many, whatever they are.
func TestLong(t *testing.T) {
	for _, s := range []string{" ", "[", "x", "1", "\xff", `"`, "\x00", "[]", "é", `{"a":`} {
		for _, k := range []int{20001, 20002, 30000, 100000} {
			wantSpot(t, strings.Repeat(s, k)[:k], api.ErrLarge, 20000)
		}
	}
	for k := 19990; k <= 20010; k++ {
		blank := strings.Repeat(" ", k-1)
		long := strings.Repeat("a", k-2)
		list := "[" + strings.Repeat("1,", (k-2)/2-1) + "1" + strings.Repeat(" ", k%2) + "]"
		if k <= 20000 {
			wantValue(t, blank+"1", digits("1"))
			wantValue(t, "1"+blank, digits("1"))
			wantValue(t, `"`+long+`"`, text(long))
			wantSpot(t, blank+" ", api.ErrForm, k)
			wantSpot(t, blank+"[", api.ErrForm, k)
			wantSpot(t, blank+"]", api.ErrForm, k-1)
			wantValue(t, list, decoded(t, list))
			continue
		}
		for _, b := range []string{blank + "1", "1" + blank, `"` + long + `"`, blank + " ", blank + "[", blank + "]", "x" + blank, list + "   "} {
			wantSpot(t, b, api.ErrLarge, 20000)
		}
	}
	var b strings.Builder
	want := object()
	for k := range 2200 {
		key := strconv.Itoa(9999 - k)
		b.WriteString(`,"` + key + `":0`)
		want.M = append([]api.Member{member(key, digits(""))}, want.M...)
	}
	wantValue(t, "{"+b.String()[1:]+"}", want)
	wantSpot(t, "{"+b.String()[1:]+`,"7800":1}`, api.ErrTwice, 1+b.Len())
}

// P4.1: of several errors the one nearest the front, as they are come to.
func TestFirstError(t *testing.T) {
	wantSpot(t, "[1e1001,\"\xff\"]", api.ErrLarge, 1)
	wantSpot(t, "[\"\xff\",1e1001]", api.ErrText, 2)
	wantSpot(t, "[x,1e1001]", api.ErrForm, 1)
	wantSpot(t, "[1e1001,x]", api.ErrLarge, 1)
	wantSpot(t, `{"a":1,"a":1e1001}`, api.ErrTwice, 7)
	wantSpot(t, `{"a":1e1001,"a":1}`, api.ErrLarge, 5)
	wantSpot(t, `{"a":1,"a`, api.ErrForm, 9)
	wantSpot(t, `{"a":1,"a\ude00"`, api.ErrText, 9)
	wantSpot(t, `{"a":1,"a"`+"\xff", api.ErrTwice, 7)
	wantSpot(t, `{"a":x,"a":1}`, api.ErrForm, 5)
	wantSpot(t, `{"a":1,"a":`+strings.Repeat("[", 40), api.ErrTwice, 7)
	wantSpot(t, `{"a":`+strings.Repeat("[", 40)+`,"a":1}`, api.ErrDepth, 36)
	wantSpot(t, strings.Repeat("[", 32)+"1e1001,[", api.ErrLarge, 32)
	wantSpot(t, strings.Repeat("[", 32)+"\"\xff\",[", api.ErrText, 33)
	wantSpot(t, strings.Repeat("[", 33)+"\xff", api.ErrDepth, 32)
	wantSpot(t, "[\"a\nb\xff\"]", api.ErrForm, 3)
	wantSpot(t, "[\"a\xffb\n\"]", api.ErrText, 3)
	wantSpot(t, "\xff", api.ErrForm, 0)
	wantSpot(t, "[1]\xff", api.ErrForm, 3)
}

var viableNumber = func() *regexp.Regexp {
	r := regexp.MustCompile(`\A-?(?:(?:0|[1-9][0-9]*)(?:\.[0-9]*|(?:\.[0-9]+)?[eE][+-]?[0-9]*)?)?`)
	r.Longest()
	return r
}()

var wholeNumber = regexp.MustCompile(`\A-?(?:0|[1-9][0-9]*)(?:\.[0-9]+)?(?:[eE][+-]?[0-9]+)?\z`)

// level is an array, or an object with its keys, that a text is within.
type level struct {
	closing byte
	keys    []string
}

// oracle reads a text sign by sign, without calling itself: what can stand is a list of letters (v a value, k a key, or the sign itself).
func oracle(b string) *api.Spot {
	var levels []level
	can := "v"
	for i := 0; ; {
		i += len(b[i:]) - len(strings.TrimLeft(b[i:], " \t\r\n"))
		if i == len(b) {
			if can == "" {
				return nil
			}
			return &api.Spot{At: i, Code: api.ErrForm}
		}
		c := b[i]
		switch {
		case strings.IndexByte(can, c) >= 0 && strings.IndexByte(",:]}", c) >= 0:
			i++
			switch {
			case c == ':':
				can = "v"
			case c != ',':
				levels = levels[:len(levels)-1]
				can = behindValue(levels)
			case levels[len(levels)-1].keys == nil:
				can = "v"
			default:
				can = "k"
			}
		case strings.Contains(can, "k") && c == '"':
			key, n, err := str.Unquote(b, i)
			if err != nil {
				return err.(*api.Spot)
			}
			l := &levels[len(levels)-1]
			if slices.Contains(l.keys, key) {
				return &api.Spot{At: i, Code: api.ErrTwice}
			}
			l.keys = append(l.keys, key)
			i, can = i+n, ":"
		case strings.Contains(can, "v") && (c == '[' || c == '{'):
			if len(levels) == 32 {
				return &api.Spot{At: i, Code: api.ErrDepth}
			}
			l := level{closing: c + 2}
			can = "v" + string(rune(c+2))
			if c == '{' {
				l.keys = []string{}
				can = "k}"
			}
			levels = append(levels, l)
			i++
		case strings.Contains(can, "v"):
			n, spot := scalar(b, i)
			if spot != nil {
				return spot
			}
			i, can = i+n, behindValue(levels)
		default:
			return &api.Spot{At: i, Code: api.ErrForm}
		}
	}
}

func behindValue(levels []level) string {
	if len(levels) == 0 {
		return ""
	}
	return "," + string(rune(levels[len(levels)-1].closing))
}

// scalar tells how many bytes a word, a number or a text has at i, or what is wrong with it.
func scalar(b string, i int) (int, *api.Spot) {
	for _, w := range []string{"null", "true", "false"} {
		k := 0
		for k < len(w) && i+k < len(b) && b[i+k] == w[k] {
			k++
		}
		if k == len(w) {
			return k, nil
		}
		if k > 0 {
			return 0, &api.Spot{At: i + k, Code: api.ErrForm}
		}
	}
	if b[i] == '"' {
		_, n, err := str.Unquote(b, i)
		if err != nil {
			return 0, err.(*api.Spot)
		}
		return n, nil
	}
	s := viableNumber.FindString(b[i:])
	switch {
	case !wholeNumber.MatchString(s):
		return 0, &api.Spot{At: i + len(s), Code: api.ErrForm}
	case !mayBe(s):
		return 0, &api.Spot{At: i, Code: api.ErrLarge}
	}
	return len(s), nil
}

// mayBe tells by its digits alone whether a number's text is that of one that may be.
func mayBe(s string) bool {
	s, e, _ := strings.Cut(strings.ToLower(strings.TrimPrefix(s, "-")), "e")
	whole, frac, _ := strings.Cut(s, ".")
	all := strings.TrimLeft(whole+frac, "0")
	short := strings.TrimRight(all, "0")
	exp := new(big.Int)
	exp.SetString(e, 10)
	exp.Add(exp, big.NewInt(int64(len(all)-len(short)-len(frac))))
	return short == "" || len(short) <= 60 && exp.CmpAbs(big.NewInt(1000)) <= 0
}

// checkText holds Parse against the oracle, and a value against the library's.
func checkText(t *testing.T, b string) *api.Spot {
	t.Helper()
	spot := oracle(b)
	if len(b) > 20000 {
		spot = &api.Spot{At: 20000, Code: api.ErrLarge}
	}
	if spot != nil {
		wantSpot(t, b, spot.Code, spot.At)
		if spot.At < 0 || spot.At > len(b) {
			t.Errorf("%.120q: At %d", b, spot.At)
		}
	} else {
		wantValue(t, b, decoded(t, b))
	}
	return spot
}

// randomTextOf is a text with blanks, and keys and numbers that are odd now and then.
func randomTextOf(r *rand.Rand, levels int) string {
	blank := func() string { return []string{"", "", "", " ", "\n", "\t \r\n"}[r.Intn(6)] }
	words := []string{"", "a", "b", "aa", "é", "😀", "\n", "\"", "\x00", "~/"}
	kinds := 7
	if levels == 0 {
		kinds = 5
	}
	var b strings.Builder
	b.WriteString(blank())
	switch r.Intn(kinds) {
	case 0:
		b.WriteString([]string{"null", "true", "false"}[r.Intn(3)])
	case 1, 2:
		b.WriteString([]string{"0", "-0", "1", "-12.50", "6e3", "0.5E-7", "1e+1000", "10e-1001", strings.Repeat("1", 60), "1.0"}[r.Intn(10)])
	case 3, 4:
		b.WriteString(spelled(r, words[r.Intn(len(words))]+words[r.Intn(len(words))]))
	case 5:
		b.WriteString("[" + blank())
		for i := range r.Intn(4) {
			b.WriteString([]string{"", ","}[min(i, 1)] + randomTextOf(r, levels-1))
		}
		b.WriteString("]")
	case 6:
		b.WriteString("{" + blank())
		for i, k := range r.Perm(len(words))[:r.Intn(4)] {
			b.WriteString([]string{"", ","}[min(i, 1)] + blank() + spelled(r, words[k]) + blank() + ":" + randomTextOf(r, levels-1))
		}
		b.WriteString("}")
	}
	b.WriteString(blank())
	return b.String()
}

// P4.1, T3: many texts, as they are and with some pieces changed, against the oracle.
func TestRandomTexts(t *testing.T) {
	r := rand.New(rand.NewSource(3))
	odd := []string{
		"[", "]", "{", "}", ",", ":", `"`, `\`, "0", "-", ".", "e", "E", "+", "n", "null", "true", " ", "\x00", "\xff", "é", "1e1001", `"a":1,`, `"a":1,"\u0061":`, `"":0,"\u00e9":[],"é":1,`,
		strings.Repeat("[", 31), strings.Repeat(`{"a":`, 32), strings.Repeat("[", 33), strings.Repeat("1", 61), `\u12`, `"\ud83d"`, "\n",
	}
	met := map[api.Code]int{}
	for i := range 120000 {
		b := randomTextOf(r, i%6)
		for range i % 4 {
			from := r.Intn(len(b) + 1)
			to := min(len(b), from+r.Intn(3))
			if k := strings.LastIndexAny(b[:from], "[{,:"); r.Intn(2) == 0 {
				from, to = k+1, k+1
			}
			b = b[:from] + odd[r.Intn(len(odd))] + b[to:]
		}
		if i%5 == 0 {
			b = b[:r.Intn(len(b)+1)]
		}
		if spot := checkText(t, b); spot != nil {
			met[spot.Code]++
		} else {
			met[0]++
		}
	}
	for _, c := range []api.Code{0, api.ErrForm, api.ErrText, api.ErrDepth, api.ErrTwice, api.ErrLarge} {
		if met[c] < 300 {
			t.Error("too few of one kind:", met)
		}
	}
}

// P4.1: every byte of a text left out, put in, or another one, and every front of it.
func TestOneByteOff(t *testing.T) {
	for _, b := range []string{
		` {"a" : [ -1.50e+3 , "\u00e9\"x", null ] , "\u0062":{"":true}, "c":{ } ,"d":[false ,[]]} `,
		strings.Repeat("[", 31) + `{"k":1,"l":0.5E-7}` + strings.Repeat("]", 31),
	} {
		for i := 0; i <= len(b); i++ {
			checkText(t, b[:i])
			checkText(t, b[i:])
			for c := range 256 {
				s := string([]byte{byte(c)})
				checkText(t, b[:i]+s+b[i:])
				if i < len(b) {
					checkText(t, b[:i]+s+b[i+1:])
				}
			}
			if i < len(b) {
				checkText(t, b[:i]+b[i+1:])
			}
		}
	}
}

// canonical is a value's canonical text by the words of layer 5.
func canonical(v api.Value) string {
	var l []string
	switch v.Kind {
	case api.Bool:
		return strconv.FormatBool(v.B)
	case api.Number:
		return num.Show(v.N)
	case api.String:
		return str.Quote(v.S)
	case api.Array:
		for _, x := range v.L {
			l = append(l, canonical(x))
		}
		return "[" + strings.Join(l, ",") + "]"
	case api.Object:
		for _, m := range v.M {
			l = append(l, str.Quote(m.Key)+":"+canonical(m.V))
		}
		return "{" + strings.Join(l, ",") + "}"
	}
	return "null"
}

// P4.3: canonical texts are parsed as the values that they show.
func TestCanonicalIsParsed(t *testing.T) {
	r := rand.New(rand.NewSource(4))
	for i := range 20000 {
		b := randomTextOf(r, i%8)
		v, err := Parse(b)
		if err != nil {
			t.Fatalf("%q: %v", b, err)
		}
		wantValue(t, canonical(v), v)
		if w, err := Parse(canonical(v)); err != nil || canonical(w) != canonical(v) {
			t.Errorf("%q: %v", canonical(v), err)
		}
	}
	for _, c := range []rune{0, 1, 0x1f, ' ', '"', '/', '\\', 0x7f, 0x80, 0x2028, 0xd7ff, 0xe000, 0xfeff, 0xfffd, 0x10000, utf8.MaxRune} {
		v := object(member(string(c), array(text(string(c)), text(string(c)+"x"))), member(string(c)+"y", number(api.Num{Neg: true, Digits: "12", Exp: -1000})))
		wantValue(t, canonical(v), v)
	}
}

// stretch is memory from a byte on to another.
type stretch struct{ from, to uintptr }

func stringStretch(s string) stretch {
	from := uintptr(unsafe.Pointer(unsafe.StringData(s)))
	return stretch{from, from + uintptr(len(s))}
}

// stretches is the memory of all texts and lists of a value, as far as their capacities go.
func stretches(v api.Value) []stretch {
	l := []stretch{stringStretch(v.S), stringStretch(v.N.Digits)}
	from := uintptr(unsafe.Pointer(unsafe.SliceData(v.L)))
	l = append(l, stretch{from, from + uintptr(cap(v.L))*unsafe.Sizeof(api.Value{})})
	from = uintptr(unsafe.Pointer(unsafe.SliceData(v.M)))
	l = append(l, stretch{from, from + uintptr(cap(v.M))*unsafe.Sizeof(api.Member{})})
	for _, x := range v.L {
		l = append(l, stretches(x)...)
	}
	for _, m := range v.M {
		l = append(append(l, stringStretch(m.Key)), stretches(m.V)...)
	}
	return l
}

func overlap(a, b stretch) bool { return a.from < b.to && b.from < a.to }

// P4.2: what is told shares no memory with the text, nor with itself, nor with what is told of it once more.
func TestNewMemory(t *testing.T) {
	r := rand.New(rand.NewSource(5))
	texts := []string{
		`"plain"`, `{"plain key":"plain text","k":[123456789,"plain text"]}`, "[[1234],[1234],[],{}]", "123456789", `["` + strings.Repeat("long", 1000) + `"]`,
	}
	for range 300 {
		texts = append(texts, randomTextOf(r, 5))
	}
	for _, b := range texts {
		b = strings.Clone(b)
		v, err := Parse(b)
		w, again := Parse(b)
		if err != nil || again != nil {
			t.Fatalf("%q: %v, %v", b, err, again)
		}
		told := append(stretches(v), stretches(w)...)
		for i, s := range told {
			if overlap(s, stringStretch(b)) {
				t.Errorf("Parse(%.80q) keeps its text", b)
			}
			for _, u := range told[:i] {
				if overlap(s, u) {
					t.Errorf("Parse(%.80q) has memory twice", b)
				}
			}
		}
	}
}

// P4.2: an error is a new one each time.
func TestNewErrors(t *testing.T) {
	for _, b := range []string{"", "x", "1e1001", "\"\xff\"", strings.Repeat("[", 33), `{"":1,"":1}`, strings.Repeat(" ", 20001)} {
		_, err := Parse(b)
		spot, ok := err.(*api.Spot)
		if !ok {
			t.Fatalf("%.80q: %v", b, err)
		}
		was := *spot
		spot.At, spot.Code = -7, 99
		wantSpot(t, b, was.Code, was.At)
	}
}

// R2, P1: nothing is kept from one text to the next, nor among several that are read at once.
func TestNothingKept(t *testing.T) {
	r := rand.New(rand.NewSource(6))
	var texts, want []string
	for range 200 {
		b := randomTextOf(r, 4)
		texts, want = append(texts, b), append(want, answer(b))
		texts, want = append(texts, b+"]"), append(want, answer(b+"]"))
	}
	var readers sync.WaitGroup
	for k := range 8 {
		readers.Go(func() {
			for i := range texts {
				i = (i*7 + k*31) % len(texts)
				if got := answer(texts[i]); got != want[i] {
					t.Errorf("Parse(%q) is %s, was %s", texts[i], got, want[i])
				}
			}
		})
	}
	readers.Wait()
}

// answer is what Parse tells, as a text.
func answer(b string) string {
	v, err := Parse(b)
	if err != nil {
		return canonical(v) + " " + err.Error()
	}
	return canonical(v)
}

// P1, T3: any bytes come to the answer that the oracle has.
func FuzzParse(f *testing.F) {
	f.Add(` {"a" : [ -1.50e+3 , "\u00e9\"x", null ] , "\u0061":{"":true}} `)
	f.Add(strings.Repeat("[", 33) + "1e1001")
	f.Add("{\"\":1,\"\":\"\xff\"}")
	f.Fuzz(func(t *testing.T, b string) { checkText(t, b) })
}
