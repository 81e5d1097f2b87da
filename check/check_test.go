package check

import (
	"encoding/json"
	"fmt"
	"math/big"
	"math/rand"
	"reflect"
	"slices"
	"strconv"
	"strings"
	"sync"
	"testing"
	"unicode/utf8"

	"doublet/api"
	"doublet/parse"
	"doublet/refs"
	"doublet/schema"
	"doublet/show"
	"doublet/value"
)

func null() api.Value                       { return api.Value{} }
func boolean(b bool) api.Value              { return api.Value{Kind: api.Bool, B: b} }
func text(s string) api.Value               { return api.Value{Kind: api.String, S: s} }
func number(n api.Num) api.Value            { return api.Value{Kind: api.Number, N: n} }
func array(l ...api.Value) api.Value        { return api.Value{Kind: api.Array, L: l} }
func object(l ...api.Member) api.Value      { return api.Value{Kind: api.Object, M: l} }
func pair(k string, v api.Value) api.Member { return api.Member{Key: k, V: v} }

// clone shares no list with v.
func clone(v api.Value) api.Value {
	v.L, v.M = slices.Clone(v.L), slices.Clone(v.M)
	for i := range v.L {
		v.L[i] = clone(v.L[i])
	}
	for i := range v.M {
		v.M[i].V = clone(v.M[i].V)
	}
	return v
}

// of is the value of a text.
func of(t *testing.T, s string) api.Value {
	t.Helper()
	v, err := parse.Parse(s)
	if err != nil {
		t.Fatalf("%.200q is no value: %v", s, err)
	}
	return v
}

// nodesOf are a schema's nodes, linked.
func nodesOf(t *testing.T, v api.Value) []api.Node {
	t.Helper()
	l, err := schema.Compile(v)
	if err == nil {
		l, err = refs.Link(l)
	}
	if err != nil {
		t.Fatalf("%.300s is no schema: %v", show.Show(v), err)
	}
	return l
}

// with is a node of one keyword.
func with(name string, v api.Value) api.Node {
	return api.Node{Keys: []api.Key{{Name: name, V: v}}}
}

// asText is what a node asks, in short.
func asText(n api.Node) string {
	if n.All {
		return strconv.FormatBool(n.Pass)
	}
	var l []string
	for _, k := range n.Keys {
		l = append(l, fmt.Sprintf("%s: %.100s", k.Name, show.Show(k.V)))
	}
	return "{" + strings.Join(l, ", ") + "}"
}

// wantNode asks which keywords of a node a value fails.
func wantNode(t *testing.T, n api.Node, v api.Value, want ...string) {
	t.Helper()
	if got := Own(n, v); !slices.Equal(got, want) {
		t.Errorf("Own(%s, %.300s) = %q, want %q", asText(n), show.Show(v), got, want)
	}
}

// wantOwn asks which keywords of a schema's first node a value fails, by their texts.
func wantOwn(t *testing.T, s, v string, want ...string) {
	t.Helper()
	wantNode(t, nodesOf(t, of(t, s))[0], of(t, v), want...)
}

// wantPass asks for nothing, wantFail for the schema's one keyword, of each value.
func wantPass(t *testing.T, s string, l ...string) {
	t.Helper()
	for _, v := range l {
		wantOwn(t, s, v)
	}
}

func wantFail(t *testing.T, s string, l ...string) {
	t.Helper()
	for _, v := range l {
		wantOwn(t, s, v, of(t, s).M[0].Key)
	}
}

// values are texts of values of all Kinds.
func values() []string {
	return []string{`null`, `false`, `true`, `0`, `-0`, `1`, `1.0`, `-1`, `1.5`, `-15e-2`, `1e1000`, `-1e-1000`, `""`, `"a"`, `"null"`, `"1"`, `"é😀"`,
		`[]`, `[null]`, `[1]`, `[1,1.0]`, `[[],[]]`, `{}`, `{"a":1}`, `{"":null}`, `{"a":1,"b":1}`, `{"type":"null"}`}
}

// The chapter's example.
func TestExample(t *testing.T) {
	wantOwn(t, `{"minimum":2}`, `1`, "minimum")
}

// P14.1, P14.3: true, false, and no keywords.
func TestNoKeys(t *testing.T) {
	for _, v := range values() {
		wantOwn(t, `true`, v)
		wantOwn(t, `{}`, v)
		wantOwn(t, `false`, v, "false")
		// It is of the node alone, wherever it stands, and of nothing in it.
		l := nodesOf(t, of(t, `{"items":false,"not":true,"properties":{"a":{}}}`))
		wantNode(t, l[0], of(t, v))
		wantNode(t, l[1], of(t, v), "false")
		wantNode(t, l[2], of(t, v))
		wantNode(t, l[3], of(t, v))
		wantNode(t, api.Node{All: true, Pass: true}, of(t, v))
		wantNode(t, api.Node{All: true}, of(t, v), "false")
		wantNode(t, api.Node{}, of(t, v))
		wantNode(t, api.Node{Path: "/not", All: true}, of(t, v), "false")
		wantNode(t, api.Node{Path: "/not", Keys: []api.Key{}}, of(t, v))
	}
}

// P14.1: type, by each name and by several.
func TestType(t *testing.T) {
	kinds := map[string][]string{
		"null":    {`null`},
		"boolean": {`false`, `true`},
		"integer": {`0`, `-0`, `0.0`, `1`, `1.0`, `-1`, `1e3`, `1e1000`, `-1e1000`, `100e-2`, strings.Repeat("9", 60)},
		"number":  {`1.5`, `-0.1`, `1e-1`, `1e-1000`, `-15e-2`, strings.Repeat("9", 59) + `.9`},
		"string":  {`""`, `"a"`, `"null"`, `"1"`, `"string"`},
		"array":   {`[]`, `[null]`, `["array"]`, `[{}]`},
		"object":  {`{}`, `{"a":1}`, `{"type":"array"}`, `{"0":1}`},
	}
	is := func(name, kind string) bool { return name == kind || name == "number" && kind == "integer" }
	for kind, l := range kinds {
		for _, v := range l {
			for a := range kinds {
				if is(a, kind) {
					wantPass(t, `{"type":"`+a+`"}`, v)
					wantPass(t, `{"type":["`+a+`"]}`, v)
				} else {
					wantFail(t, `{"type":"`+a+`"}`, v)
					wantFail(t, `{"type":["`+a+`"]}`, v)
				}
				for b := range kinds {
					switch s := `{"type":["` + a + `","` + b + `"]}`; {
					case a == b:
					case is(a, kind) || is(b, kind):
						wantPass(t, s, v)
					default:
						wantFail(t, s, v)
					}
				}
			}
			wantPass(t, `{"type":["null","boolean","number","integer","string","array","object"]}`, v)
			wantPass(t, `{"type":["object","array","string","number","boolean","null"]}`, v)
		}
	}
	wantPass(t, `{"type":["object","array","string","integer","boolean","null"]}`, `1`)
	wantFail(t, `{"type":["object","array","string","integer","boolean","null"]}`, `1.5`)
}

// P14.1: const and enum: the same is layer 3's.
func TestConstEnum(t *testing.T) {
	same := [][]string{
		{`null`}, {`false`}, {`true`}, {`0`, `-0`, `0.0`, `0e9`}, {`1`, `1.0`, `10e-1`, `0.1e1`}, {`-1`, `-1.0`}, {`1.5`, `15e-1`}, {`100`, `1e2`}, {`1e1000`, `10e999`},
		{`""`}, {`"a"`, `"\u0061"`}, {`"A"`}, {`"é"`, `"\u00e9"`}, {`"e\u0301"`}, {`"1"`}, {`"null"`}, {`"a "`}, {`"\u0000"`},
		{`[]`, `[ ]`}, {`[null]`}, {`[1]`, `[1.0]`}, {`[[]]`}, {`[[1]]`}, {`[1,2]`, `[1.0,20e-1]`}, {`[2,1]`}, {`[1,2,3]`}, {`[1,1]`}, {`[{}]`}, {`["a"]`},
		{`{}`}, {`{"a":1}`, `{"a":1.0}`}, {`{"a":null}`}, {`{"A":1}`}, {`{"a":1,"b":2}`, `{"b":2,"a":1}`}, {`{"a":2,"b":1}`}, {`{"a":[1]}`}, {`{"":1}`}, {`{"0":1}`}, {`{"a":{"b":1}}`}, {`{"a":{"b":2}}`},
	}
	for i, likes := range same {
		for j, others := range same {
			for _, a := range likes {
				for _, b := range others {
					if i == j {
						wantPass(t, `{"const":`+a+`}`, b)
						wantPass(t, `{"enum":[`+a+`]}`, b)
						wantPass(t, `{"enum":["x",`+a+`]}`, b)
						wantPass(t, `{"enum":[`+a+`,{"x":1},`+a+`]}`, b)
					} else {
						wantFail(t, `{"const":`+a+`}`, b)
						wantFail(t, `{"enum":[`+a+`]}`, b)
						wantFail(t, `{"enum":["x",`+a+`,["x"]]}`, b)
					}
				}
			}
		}
	}
	// It is one of the elements, not all of them, nor what is in one.
	wantPass(t, `{"enum":[1,[2],{"a":3}]}`, `1`, `[2]`, `{"a":3}`)
	wantFail(t, `{"enum":[1,[2],{"a":3}]}`, `2`, `3`, `[1,[2],{"a":3}]`, `[1]`, `"a"`, `null`)
	wantFail(t, `{"const":[1]}`, `1`, `[[1]]`, `[]`, `[1,1]`)
}

// P14.1: minimum and maximum, of Numbers alone.
func TestBounds(t *testing.T) {
	long := strings.Repeat("7", 59)
	rising := []string{`-1e1000`, `-9.9e999`, `-` + long + `8`, `-` + long + `7`, `-100`, `-99`, `-10`, `-2`, `-1.5`, `-1.01`, `-1`, `-0.99`, `-1e-999`, `-1e-1000`, `0`, `1e-1000`, `1e-999`, `0.01`, `0.99`, `1`, `1.01`,
		`1.5`, `1.` + long, `1.` + long[1:] + `8`, `2`, `9`, `9.9`, `10`, `99`, `100`, `9007199254740992`, `9007199254740993`, `9223372036854775807`, `9223372036854775808`, `1e20`, long + `7`, long + `8`, `1e60`, `9.9e999`, `1e1000`}
	for i, bound := range rising {
		wantPass(t, `{"minimum":`+bound+`}`, rising[i:]...)
		wantFail(t, `{"minimum":`+bound+`}`, rising[:i]...)
		wantPass(t, `{"maximum":`+bound+`}`, rising[:i+1]...)
		wantFail(t, `{"maximum":`+bound+`}`, rising[i+1:]...)
	}
	wantPass(t, `{"minimum":2}`, `2.0`, `20e-1`, `0.2e1`)
	wantPass(t, `{"maximum":-0.0}`, `0`, `-0`, `0e5`)
	for _, bound := range []string{`-5`, `0`, `5`, `1e1000`, `-1e1000`} {
		for _, s := range []string{`{"minimum":` + bound + `}`, `{"maximum":` + bound + `}`} {
			wantPass(t, s, `null`, `false`, `true`, `""`, `"1"`, `"9"`, `[]`, `[1]`, `[9,9,9,9,9,9,9]`, `{}`, `{"minimum":1}`, `{"a":9}`)
		}
	}
}

// writings are texts of one count.
func writings(k int) []string {
	s := strconv.Itoa(k)
	l := []string{s, s + ".0", s + "e0"}
	if k > 0 {
		l = append(l, s+"000.0e-3")
	}
	return l
}

// P14.1: minLength and maxLength, of Strings alone, by characters.
func TestLengths(t *testing.T) {
	texts := []string{"", "a", "\x00", "é", "€", "\uffff", "😀", "\U0010ffff", "\ufffd", "ab", "é😀", "e\u0301", "\r\n", "\u200d\u200d", "abc", "\x7f\u0080\u07ff", "\u0800\ud7ff\ue000", "👩\u200d👩", "日本語",
		"abcd", "\"\\/\b", strings.Repeat("a", 99), strings.Repeat("é", 99), strings.Repeat("😀", 100), strings.Repeat("a", 101)}
	for _, s := range texts {
		n := len([]rune(s))
		for k := range 110 {
			var short, long []string
			if n < k {
				short = []string{"minLength"}
			}
			if n > k {
				long = []string{"maxLength"}
			}
			for _, count := range writings(k) {
				wantNode(t, with("minLength", of(t, count)), text(s), short...)
				wantNode(t, with("maxLength", of(t, count)), text(s), long...)
			}
		}
	}
	for _, v := range []string{`""`, `"a"`, `"abcdefghij"`} {
		for _, count := range []string{`1e900`, `1e1000`, `18446744073709551616`, `18446744073709551617`, `9223372036854775808`, `4294967296`, strings.Repeat("9", 60)} {
			wantFail(t, `{"minLength":`+count+`}`, v)
			wantPass(t, `{"maxLength":`+count+`}`, v)
		}
	}
	for _, s := range []string{`{"minLength":2}`, `{"maxLength":0}`, `{"minLength":1e900}`} {
		wantPass(t, s, `null`, `false`, `true`, `0`, `1`, `123456789`, `[]`, `["a"]`, `["a","b","c"]`, `{}`, `{"a":"b"}`, `{"a":1,"b":2,"c":3}`)
	}
}

// P14.1: minItems and maxItems, of Arrays alone, by their own elements.
func TestItems(t *testing.T) {
	for n := range 40 {
		l := array()
		for i := range n {
			l.L = append(l.L, []api.Value{null(), array(null(), null(), null()), text("abc"), object(pair("a", null()), pair("b", null()))}[i%4])
		}
		for k := range 45 {
			var few, many []string
			if n < k {
				few = []string{"minItems"}
			}
			if n > k {
				many = []string{"maxItems"}
			}
			for _, count := range writings(k) {
				wantNode(t, with("minItems", of(t, count)), l, few...)
				wantNode(t, with("maxItems", of(t, count)), l, many...)
			}
		}
	}
	for _, v := range []string{`[]`, `[1]`, `[[],[],[]]`} {
		for _, count := range []string{`1e900`, `1e1000`, `18446744073709551616`, `18446744073709551617`, `9223372036854775808`, `4294967296`, strings.Repeat("9", 60)} {
			wantFail(t, `{"minItems":`+count+`}`, v)
			wantPass(t, `{"maxItems":`+count+`}`, v)
		}
	}
	for _, s := range []string{`{"minItems":2}`, `{"maxItems":0}`, `{"minItems":1e900}`} {
		wantPass(t, s, `null`, `false`, `true`, `0`, `1`, `123456789`, `""`, `"abc"`, `{}`, `{"a":[]}`, `{"0":1,"1":2,"2":3}`)
	}
}

// unlike are texts of values no two of which are the same, some of them nearly.
func unlike() []string {
	return []string{`null`, `false`, `true`, `0`, `1`, `-1`, `10`, `1.5`, `15`, `-15`, `1e1000`, `1e-1000`, `1e999`, `""`, `"a"`, `"b"`, `"A"`, `"aa"`, `"a\u0000"`, `"1"`, `"null"`, `"true"`, `"[]"`, `"{}"`, `"é"`, `"e\u0301"`, `"\uffff"`, `"\ud83d\ude00"`,
		`[]`, `[null]`, `[false]`, `[true]`, `[0]`, `[1]`, `["1"]`, `["a"]`, `["a","b"]`, `["b","a"]`, `["ab"]`, `[[]]`, `[[],[]]`, `[[[]]]`, `[{}]`, `[1,2]`, `[2,1]`, `[1,2,3]`, `[[1],2]`, `[1,[2]]`, `[12]`,
		`{}`, `{"a":null}`, `{"a":false}`, `{"a":1}`, `{"a":2}`, `{"b":1}`, `{"a":1,"b":1}`, `{"a":1,"b":2}`, `{"a":2,"b":1}`, `{"a":1,"c":2}`, `{"a":{"b":1}}`, `{"a":{"b":2}}`, `{"a":{}}`, `{"a":[]}`, `{"":1}`, `{"ab":1}`, `{"a":1,"b":2,"c":3}`}
}

// P14.1: uniqueItems: two that are the same, of whatever values, wherever they stand.
func TestUnique(t *testing.T) {
	all := array()
	for _, s := range unlike() {
		all.L = append(all.L, of(t, s))
	}
	on, off := with("uniqueItems", boolean(true)), with("uniqueItems", boolean(false))
	r := rand.New(rand.NewSource(1))
	for range 20 {
		r.Shuffle(len(all.L), func(i, j int) { all.L[i], all.L[j] = all.L[j], all.L[i] })
		wantNode(t, on, all)
		wantNode(t, off, all)
		for i, x := range all.L {
			for _, at := range []int{0, i, i + 1, len(all.L) / 2, len(all.L)} {
				twice := array(slices.Insert(slices.Clone(all.L), at, clone(x))...)
				wantNode(t, on, twice, "uniqueItems")
				wantNode(t, off, twice)
			}
		}
	}
	for i, a := range unlike() {
		for j, b := range unlike() {
			s := `[` + a + `,` + b + `]`
			if i == j {
				wantFail(t, `{"uniqueItems":true}`, s, `[["x"],`+a+`,["y"],`+b+`,["z"]]`, `[[],`+s+`,[],`+s+`,{}]`)
			} else {
				wantPass(t, `{"uniqueItems":true}`, s, `[["x"],`+a+`,["y"],`+b+`,["z"]]`)
			}
		}
	}
}

// P14.1: uniqueItems: what is the same though its text isn't, and what isn't asked.
func TestUniqueOthers(t *testing.T) {
	wantFail(t, `{"uniqueItems":true}`, `[1,1.0]`, `[0,-0]`, `[100,2,1e2]`, `["a","\u0061"]`, `[{"a":1,"b":2},{"b":2.0,"a":1}]`, `[[1],[[1]],[1.0]]`, `[1,"1",[1],1.0]`, `[null,null]`, `[{},{}]`, `[[],[]]`, `[1,1,1]`, `[2,1,3,2,4,1]`)
	wantPass(t, `{"uniqueItems":true}`, `[]`, `[1]`, `[[1,1]]`, `[{"a":1,"b":1}]`, `[[1,1],[1,1,1]]`, `[1,"1",[1]]`, `{"a":1,"b":1}`, `{}`, `"aa"`, `11`, `null`, `true`, `false`)
	wantPass(t, `{"uniqueItems":false}`, `[1,1]`, `[[],[]]`, `[null,null]`, `[]`, `[1,2]`, `{}`, `"aa"`, `null`)
}

// P14.1: required, of Objects alone: a member of each key, whatever its value.
func TestRequired(t *testing.T) {
	keys := []string{"", "\x00", "0", "A", "a", "a/b", "aa", "b", "é", "e\u0301", "\uffff", "😀", "required"}
	slices.Sort(keys)
	for have := range 1 << len(keys) {
		o := object()
		for i, k := range keys {
			if have>>i&1 == 1 {
				o.M = append(o.M, pair(k, []api.Value{null(), boolean(false), text("b"), object(pair("b", null())), array()}[i%5]))
			}
		}
		// Each two of them, one of these being each one.
		for i := range keys {
			for _, j := range []int{0, i, len(keys) - 1} {
				var want []string
				if have>>i&1 == 0 || have>>j&1 == 0 {
					want = []string{"required"}
				}
				n := with("required", array(text(keys[i]), text(keys[j])))
				if i == j {
					n = with("required", array(text(keys[i])))
				}
				if got := Own(n, o); !slices.Equal(got, want) {
					t.Fatalf("Own(%s, %s) = %q, want %q", asText(n), show.Show(o), got, want)
				}
			}
		}
	}
	wantPass(t, `{"required":[]}`, values()...)
	wantPass(t, `{"required":["a"]}`, `{"a":null}`, `{"a":false,"b":1}`, `[]`, `["a"]`, `"a"`, `"b"`, `1`, `null`, `true`)
	wantFail(t, `{"required":["a"]}`, `{}`, `{"b":1}`, `{"A":1}`, `{"a ":1}`, `{"b":{"a":1}}`, `{"b":"a"}`, `{"":"a"}`)
	wantFail(t, `{"required":["b","a","c"]}`, `{"a":1,"b":1}`, `{"b":1,"c":1}`, `{"a":1,"c":1}`, `{"a":1}`, `{}`, `{"d":1}`)
	wantPass(t, `{"required":["b","a","c"]}`, `{"c":1,"b":1,"a":1}`, `{"a":1,"b":1,"c":1,"d":1}`)
}

// P14.1: no value fails the keywords that have schemas in them, or mean one, whatever these ask.
func TestOthers(t *testing.T) {
	for _, s := range []string{`{"items":false}`, `{"additionalProperties":false}`, `{"not":true}`, `{"not":{}}`, `{"properties":{"a":false,"":false}}`, `{"allOf":[false]}`, `{"anyOf":[false,false]}`, `{"oneOf":[true,true]}`, `{"oneOf":[false]}`,
		`{"$defs":{"a":false}}`, `{"$defs":{"a":false},"$ref":"#/$defs/a"}`, `{"items":false,"additionalProperties":false,"not":true,"properties":{"a":false},"allOf":[false],"anyOf":[false],"oneOf":[false],"$defs":{"a":false},"$ref":"#/$defs/a"}`} {
		wantPass(t, s, values()...)
	}
	for _, s := range []string{`{"allOf":[{"type":"null","minimum":5}]}`, `{"items":{"const":1}}`, `{"not":{"type":["null","integer"]}}`, `{"properties":{"a":{"required":["a"]}}}`, `{"$ref":"#/$defs/a","$defs":{"a":{"enum":[[]]}}}`} {
		wantPass(t, s, values()...)
	}
}

// P14.1: several keywords, each by itself, in the node's order.
func TestSeveral(t *testing.T) {
	wantOwn(t, `{"type":"null","const":1,"enum":[2]}`, `3`, "const", "enum", "type")
	wantOwn(t, `{"minimum":2,"maximum":1}`, `1.5`, "maximum", "minimum")
	wantOwn(t, `{"minLength":2,"maxLength":0,"type":"object","minimum":9}`, `"a"`, "maxLength", "minLength", "type")
	wantOwn(t, `{"uniqueItems":true,"minItems":3,"maxItems":1,"enum":[[]],"const":null,"required":["a"],"items":false}`, `[1,1]`, "const", "enum", "maxItems", "minItems", "uniqueItems")
	wantOwn(t, `{"required":["b"],"type":["array","null"],"properties":{"a":false},"additionalProperties":false,"const":{}}`, `{"a":1}`, "const", "required", "type")
	wantOwn(t, `{"type":"integer","minimum":1,"maximum":3,"enum":[1,2,3],"not":true}`, `2`)
	// The other nodes have their own.
	l := nodesOf(t, of(t, `{"type":"null","items":{"type":"array","minItems":1},"not":{"const":1}}`))
	wantNode(t, l[0], of(t, `1`), "type")
	wantNode(t, l[1], of(t, `1`), "type")
	wantNode(t, l[1], of(t, `[]`), "minItems")
	wantNode(t, l[2], of(t, `1`))
	wantNode(t, l[2], of(t, `[]`), "const")
	// All that can be failed at once, of each Kind.
	all := `{"type":[],"enum":[9],"const":8,"minimum":7,"maximum":3,"minLength":4,"maxLength":1,"minItems":4,"maxItems":1,"uniqueItems":true,"required":["z"],"items":false,"not":true}`
	for v, want := range map[string]string{`null`: "const enum type", `5`: "const enum maximum minimum type", `"ab"`: "const enum maxLength minLength type",
		`[1,1]`: "const enum maxItems minItems type uniqueItems", `{"a":1}`: "const enum required type", `true`: "const enum type"} {
		for _, name := range []string{"null", "number", "string", "array", "object", "boolean"} {
			if len(Own(with("type", text(name)), of(t, v))) > 0 {
				wantOwn(t, strings.Replace(all, `[]`, `"`+name+`"`, 1), v, strings.Fields(want)...)
			}
		}
	}
}

// read is a value as the library reads its text.
func read(t *testing.T, v api.Value) any {
	var x any
	d := json.NewDecoder(strings.NewReader(show.Show(v)))
	d.UseNumber()
	if err := d.Decode(&x); err != nil {
		t.Fatal(show.Show(v), err)
	}
	return x
}

// rat is a number exactly.
func rat(x any) *big.Rat {
	r, _ := new(big.Rat).SetString(string(x.(json.Number)))
	return r
}

// alike is whether two values are the same.
func alike(a, b any) bool {
	if reflect.TypeOf(a) != reflect.TypeOf(b) {
		return false
	}
	switch a := a.(type) {
	case json.Number:
		return rat(a).Cmp(rat(b)) == 0
	case []any:
		return slices.EqualFunc(a, b.([]any), alike)
	case map[string]any:
		other := b.(map[string]any)
		for k, x := range a {
			if y, ok := other[k]; !ok || !alike(x, y) {
				return false
			}
		}
		return len(a) == len(other)
	}
	return a == b
}

// typed is whether a value is of a type.
func typed(name string, x any) bool {
	switch x := x.(type) {
	case nil:
		return name == "null"
	case bool:
		return name == "boolean"
	case json.Number:
		return name == "number" || name == "integer" && rat(x).IsInt()
	case string:
		return name == "string"
	case []any:
		return name == "array"
	}
	return name == "object"
}

// failed is whether x fails a keyword of value k, row by row of the chapter's table.
func failed(name string, k, x any) bool {
	n, isNumber := x.(json.Number)
	s, isText := x.(string)
	l, isArray := x.([]any)
	o, isObject := x.(map[string]any)
	count := func(k int) json.Number { return json.Number(strconv.Itoa(k)) }
	less := func(a, b any) bool { return rat(a).Cmp(rat(b)) < 0 }
	switch name {
	case "type":
		if several, ok := k.([]any); ok {
			return !slices.ContainsFunc(several, func(one any) bool { return typed(one.(string), x) })
		}
		return !typed(k.(string), x)
	case "enum":
		return !slices.ContainsFunc(k.([]any), func(one any) bool { return alike(one, x) })
	case "const":
		return !alike(k, x)
	case "minimum":
		return isNumber && less(n, k)
	case "maximum":
		return isNumber && less(k, n)
	case "minLength":
		return isText && less(count(utf8.RuneCountInString(s)), k)
	case "maxLength":
		return isText && less(k, count(utf8.RuneCountInString(s)))
	case "minItems":
		return isArray && less(count(len(l)), k)
	case "maxItems":
		return isArray && less(k, count(len(l)))
	case "uniqueItems":
		for i, a := range l {
			if k.(bool) && slices.ContainsFunc(l[:i], func(b any) bool { return alike(a, b) }) {
				return true
			}
		}
	case "required":
		return isObject && slices.ContainsFunc(k.([]any), func(one any) bool { _, ok := o[one.(string)]; return !ok })
	}
	return false
}

// oracle is what Own should tell.
func oracle(t *testing.T, n api.Node, v api.Value) []string {
	if n.All && n.Pass {
		return nil
	}
	if n.All {
		return []string{"false"}
	}
	var l []string
	x := read(t, v)
	for _, k := range n.Keys {
		if failed(k.Name, read(t, k.V), x) {
			l = append(l, k.Name)
		}
	}
	return l
}

// randomValue may be, and is often the same as another one.
func randomValue(r *rand.Rand, levels int) api.Value {
	kinds := 6
	if levels == 0 {
		kinds = 4
	}
	v := api.Value{Kind: r.Intn(kinds)}
	switch v.Kind {
	case api.Bool:
		v.B = r.Intn(2) == 0
	case api.Number:
		if r.Intn(4) > 0 {
			v.N = api.Num{Neg: r.Intn(4) == 0, Digits: []string{"1", "2", "25", "3"}[r.Intn(4)], Exp: r.Intn(4) / 2 * (r.Intn(3) - 1)}
		}
	case api.String:
		v.S = []string{"", "a", "é", "ab", "😀", "é😀a", "null"}[r.Intn(7)]
	case api.Array:
		for range r.Intn(5) {
			v.L = append(v.L, randomValue(r, levels-1))
		}
	case api.Object:
		for _, k := range []string{"", "a", "b", "c"} {
			if r.Intn(3) == 0 {
				v.M = append(v.M, pair(k, randomValue(r, levels-1)))
			}
		}
	}
	return v
}

// randomKey is the value of a keyword that a schema may have.
func randomKey(r *rand.Rand, name string, levels int) api.Value {
	count := number(api.Num{Digits: []string{"1", "2", "3", "4"}[r.Intn(4)], Exp: r.Intn(9) / 8})
	if r.Intn(4) == 0 {
		count = number(api.Num{})
	}
	switch name {
	case "type":
		l := strings.Fields("null boolean number integer string array object")
		r.Shuffle(len(l), func(i, j int) { l[i], l[j] = l[j], l[i] })
		if r.Intn(2) == 0 {
			return text(l[0])
		}
		several := array()
		for _, s := range l[:1+r.Intn(3)] {
			several.L = append(several.L, text(s))
		}
		return several
	case "enum":
		l := array(randomValue(r, 2))
		for range r.Intn(4) {
			l.L = append(l.L, randomValue(r, 1))
		}
		return l
	case "const":
		return randomValue(r, 2)
	case "minimum", "maximum":
		for {
			if v := randomValue(r, 0); v.Kind == api.Number {
				return v
			}
		}
	case "uniqueItems":
		return boolean(r.Intn(4) > 0)
	case "required":
		l := array()
		for _, k := range []string{"b", "", "c", "a"} {
			if r.Intn(3) == 0 {
				l.L = append(l.L, text(k))
			}
		}
		return l
	case "items", "additionalProperties", "not":
		return randomSchema(r, levels-1)
	case "properties", "$defs":
		return object(pair("a", randomSchema(r, levels-1)), pair("b", randomSchema(r, levels-1)))
	case "allOf", "anyOf", "oneOf":
		return array(randomSchema(r, levels-1), randomSchema(r, levels-1))
	}
	return count
}

// randomSchema is a schema.
func randomSchema(r *rand.Rand, levels int) api.Value {
	if levels <= 0 || r.Intn(12) == 0 {
		return boolean(r.Intn(2) == 0)
	}
	names := strings.Fields("$defs additionalProperties allOf anyOf const enum items maxItems maxLength maximum minItems minLength minimum not oneOf properties required type uniqueItems")
	s := object()
	for _, name := range names {
		if r.Intn(4) == 0 {
			s.M = append(s.M, pair(name, randomKey(r, name, levels)))
		}
	}
	return s
}

// P14.1: many schemas, all their nodes, and many values.
func TestRandom(t *testing.T) {
	r := rand.New(rand.NewSource(2))
	fails := map[string]int{}
	for range 4000 {
		l := nodesOf(t, randomSchema(r, 2))
		for range 10 {
			v := randomValue(r, 3)
			for _, n := range l {
				want := oracle(t, n, v)
				wantNode(t, n, v, want...)
				for _, name := range want {
					fails[name]++
				}
			}
		}
	}
	for _, name := range strings.Fields("const enum false maxItems maxLength maximum minItems minLength minimum required type uniqueItems") {
		if fails[name] < 100 {
			t.Errorf("only %d failed by %s", fails[name], name)
		}
	}
}

// small are all values of one level, and some of two.
func small() []api.Value {
	flat := []api.Value{null(), boolean(false), boolean(true), number(api.Num{}), number(api.Num{Digits: "1"}), number(api.Num{Digits: "5", Exp: -1}), text(""), text("a"), text("é")}
	l := append(slices.Clone(flat), array(), object())
	for _, x := range flat {
		l = append(l, array(x), object(pair("a", x)), object(pair("b", x)))
	}
	for i, x := range flat[:5] {
		for _, y := range flat[i:5] {
			l = append(l, array(x, y), array(y, x), object(pair("a", x), pair("b", y)), array(array(x), array(y)), array(object(pair("a", x)), object(pair("a", y))), array(object(pair("a", x)), object(pair("b", x))))
		}
	}
	return l
}

// P14.1: all small values by each keyword, its values being small ones, too, that it may have.
func TestAllSmall(t *testing.T) {
	for _, v := range small() {
		for _, k := range small() {
			for _, name := range strings.Fields("$ref const enum items maxItems maxLength maximum minItems minLength minimum not properties required type uniqueItems") {
				n, err := schema.Compile(object(pair(name, k)))
				if err == nil {
					wantNode(t, n[0], v, oracle(t, n[0], v)...)
				}
			}
		}
		for _, name := range strings.Fields("null boolean number integer string array object") {
			n := with("type", text(name))
			wantNode(t, n, v, oracle(t, n, v)...)
		}
	}
}

// room is l with room behind its elements, in which something stands, and so all lists in these.
func room(v api.Value) api.Value {
	if v.L != nil {
		l := make([]api.Value, 0, len(v.L)+3)
		for _, x := range v.L {
			l = append(l, room(x))
		}
		v.L = append(l, text("behind"), text("behind"), text("behind"))[:len(l)]
	}
	if v.M != nil {
		m := make([]api.Member, 0, len(v.M)+3)
		for _, x := range v.M {
			m = append(m, pair(x.Key, room(x.V)))
		}
		v.M = append(m, pair("behind", null()), pair("behind", null()), pair("behind", null()))[:len(m)]
	}
	return v
}

// whole is v with all that stands behind its lists.
func whole(v api.Value) api.Value {
	v.L, v.M = slices.Clone(v.L[:cap(v.L)]), slices.Clone(v.M[:cap(v.M)])
	for i := range v.L {
		v.L[i] = whole(v.L[i])
	}
	for i := range v.M {
		v.M[i].V = whole(v.M[i].V)
	}
	return v
}

// R2: what is handed in isn't changed, nor what stands behind it.
func TestNothingChanged(t *testing.T) {
	r := rand.New(rand.NewSource(3))
	for range 3000 {
		v := room(randomValue(r, 3))
		for _, n := range nodesOf(t, room(randomSchema(r, 2))) {
			keys := slices.Grow(n.Keys, 2)
			n.Keys = append(keys, api.Key{Name: "behind"}, api.Key{Name: "behind"})[:len(keys)]
			wantV, wantKeys := whole(v), slices.Clone(n.Keys[:cap(n.Keys)])
			for i := range wantKeys {
				wantKeys[i].V, wantKeys[i].Kids = whole(wantKeys[i].V), slices.Clone(wantKeys[i].Kids)
			}
			Own(n, v)
			gotKeys := slices.Clone(n.Keys[:cap(n.Keys)])
			for i := range gotKeys {
				gotKeys[i].V, gotKeys[i].Kids = whole(gotKeys[i].V), slices.Clone(gotKeys[i].Kids)
			}
			if !reflect.DeepEqual(whole(v), wantV) || !reflect.DeepEqual(gotKeys, wantKeys) {
				t.Fatalf("changed: %s, %s", asText(n), show.Show(v))
			}
		}
	}
	// Elements stay in their order.
	l := of(t, `["c",2,"b",[2],1,"a",{},[1],null,true]`)
	wantNode(t, with("uniqueItems", boolean(true)), l)
	if got := show.Show(l); got != `["c",2,"b",[2],1,"a",{},[1],null,true]` {
		t.Errorf("changed: %s", got)
	}
}

// P14.2: what is told is new memory: what happens to it happens to nothing else.
func TestTellingAnew(t *testing.T) {
	for s, v := range map[string]string{`false`: `1`, `{"type":"null"}`: `1`, `{"type":"null","const":1,"enum":[2]}`: `3`, `{"minItems":4,"maxItems":1,"uniqueItems":true,"type":"null","const":1}`: `[1,1]`} {
		n, x := nodesOf(t, of(t, s))[0], of(t, v)
		first, second := Own(n, x), Own(n, x)
		want := slices.Clone(second)
		for i := range first {
			first[i] = "other"
		}
		_ = append(first, "other")
		if !slices.Equal(second, want) || slices.Contains(second[:cap(second)], "other") {
			t.Errorf("%s, %s: one list is told twice", s, v)
		}
		wantNode(t, n, x, want...)
		if names := fmt.Sprint(n); strings.Contains(names, "other") {
			t.Errorf("%s: what was told is the node's", s)
		}
		// What was handed in changes nothing that was told.
		for i := range n.Keys {
			n.Keys[i] = api.Key{Name: "other"}
		}
		if !slices.Equal(second, want) {
			t.Errorf("%s, %s: what was handed in is what was told", s, v)
		}
	}
}

// R2: what else is asked, before or at the same time, doesn't matter.
func TestAtOnce(t *testing.T) {
	r := rand.New(rand.NewSource(4))
	type ask struct {
		n    api.Node
		v    api.Value
		want []string
	}
	var asks []ask
	for len(asks) < 200 {
		v := randomValue(r, 3)
		for _, n := range nodesOf(t, randomSchema(r, 2)) {
			asks = append(asks, ask{n, v, oracle(t, n, v)})
		}
	}
	var askers sync.WaitGroup
	for range 8 {
		askers.Go(func() {
			for range 20 {
				for _, a := range asks {
					wantNode(t, a.n, a.v, a.want...)
				}
			}
		})
	}
	askers.Wait()
}

// P1: long values: so many elements that not each can be held against each.
func TestLong(t *testing.T) {
	const n = 200000
	numbers, texts, lists, members, keys := array(), array(), array(), array(), object()
	for i := range n {
		s := fmt.Sprintf("k%06d", i)
		x := number(api.Num{Digits: strconv.Itoa(i*10 + 1)})
		numbers.L = append(numbers.L, x)
		texts.L = append(texts.L, text(s))
		lists.L = append(lists.L, array(null(), x))
		members.L = append(members.L, object(pair("a", null()), pair("b", x)))
		keys.M = append(keys.M, pair(s, x))
	}
	on := with("uniqueItems", boolean(true))
	for _, l := range []api.Value{numbers, texts, lists, members} {
		wantNode(t, on, l)
		wantNode(t, on, array(append(slices.Clone(l.L), l.L[n/2])...), "uniqueItems")
		wantNode(t, on, array(slices.Repeat(l.L[:1], n)...), "uniqueItems")
		back := slices.Clone(l.L)
		slices.Reverse(back)
		wantNode(t, on, array(back...))
		wantNode(t, with("enum", l), l.L[n-1])
		wantNode(t, with("enum", l), text("x"), "enum")
		wantNode(t, with("const", l), array(slices.Clone(l.L)...))
		wantNode(t, with("const", l), array(back...), "const")
		wantNode(t, with("minItems", number(api.Num{Digits: "2", Exp: 5})), l)
		wantNode(t, with("maxItems", number(api.Num{Digits: "199999"})), l, "maxItems")
		wantNode(t, with("minItems", number(api.Num{Digits: "200001"})), l, "minItems")
	}
	wantNode(t, with("required", texts), keys)
	wantNode(t, with("required", texts), object(keys.M[1:]...), "required")
	wantNode(t, with("required", texts), object(keys.M[:n-1]...), "required")
	long := text(strings.Repeat("😀", 1000000))
	wantNode(t, with("minLength", number(api.Num{Digits: "1", Exp: 6})), long)
	wantNode(t, with("maxLength", number(api.Num{Digits: "999999"})), long, "maxLength")
	// Long elements, alike but for their ends.
	wantNode(t, on, array(numbers, array(numbers.L[:n-1]...), texts, array(append(slices.Clone(numbers.L[:n-1]), null())...), keys, object(keys.M[:n-1]...)))
	wantNode(t, on, array(numbers, texts, keys, lists, array(slices.Clone(lists.L)...)), "uniqueItems")
}

// P1: values down to the document's bound of levels.
func TestDeep(t *testing.T) {
	nest := func(v api.Value, wrap func(api.Value) api.Value) api.Value {
		for range 1<<16 - 4 {
			v = wrap(v)
		}
		return v
	}
	inArray := func(v api.Value) api.Value { return array(v) }
	inObject := func(v api.Value) api.Value { return object(pair("a", v)) }
	on := with("uniqueItems", boolean(true))
	for _, wrap := range []func(api.Value) api.Value{inArray, inObject} {
		a, b, c := nest(null(), wrap), nest(null(), wrap), nest(boolean(true), wrap)
		for _, ask := range []struct {
			n    api.Node
			v    api.Value
			want []string
		}{
			{on, array(a, c), nil}, {on, array(c, a, b), []string{"uniqueItems"}}, {with("const", a), b, nil}, {with("const", a), c, []string{"const"}},
			{with("enum", array(a, c)), c, nil}, {with("enum", array(a, b)), c, []string{"enum"}}, {with("enum", array(a, c)), wrap(a), []string{"enum"}}, {on, array(a, wrap(b)), nil},
		} {
			if got := Own(ask.n, ask.v); !slices.Equal(got, ask.want) {
				t.Errorf("%s: %q, want %q", ask.n.Keys[0].Name, got, ask.want)
			}
		}
	}
}

// P1, R4: of nodes and values that may not be nothing is promised; these come to an end all the same.
func TestMayNotBe(t *testing.T) {
	odd := []api.Value{{Kind: -1}, {Kind: 6}, {Kind: api.Bool, S: "null"}, {Kind: api.Number, N: api.Num{Digits: "x", Exp: 1 << 40}}, {Kind: api.String, S: "\xff\xff"}, {Kind: api.Array, M: []api.Member{pair("a", null())}}, {Kind: api.Object, M: []api.Member{pair("b", null()), pair("a", null())}}}
	for _, k := range odd {
		if value.May(k) {
			t.Errorf("%v may be", k)
		}
		for _, v := range append(slices.Clone(odd), array(odd...)) {
			for _, name := range strings.Fields("type enum const minimum maximum minLength maxLength minItems maxItems uniqueItems required items x") {
				Own(with(name, k), v)
				Own(with(name, array(k)), v)
			}
		}
	}
}

// FuzzOwn asks of any schema's nodes and any value what the oracle has.
func FuzzOwn(f *testing.F) {
	for _, s := range []string{`false`, `{"type":"integer","minimum":2}`, `{"enum":[1,[2]],"const":{"a":1}}`, `{"minLength":2,"maxLength":1e9}`, `{"uniqueItems":true,"minItems":1,"maxItems":2}`, `{"required":["a","b"],"items":false}`} {
		for _, v := range values() {
			f.Add(s, v)
		}
	}
	f.Fuzz(func(t *testing.T, s, text string) {
		k, err := parse.Parse(s)
		v, bad := parse.Parse(text)
		if err != nil || bad != nil {
			return
		}
		l, err := schema.Compile(k)
		if err != nil {
			return
		}
		for _, n := range l {
			wantNode(t, n, v, oracle(t, n, v)...)
		}
	})
}
