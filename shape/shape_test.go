package shape

import (
	"encoding/json"
	"math/big"
	"math/rand"
	"reflect"
	"slices"
	"strconv"
	"strings"
	"sync"
	"testing"

	"doublet/api"
	"doublet/parse"
	"doublet/show"
	"doublet/value"
)

func text(s string) api.Value               { return api.Value{Kind: api.String, S: s} }
func number(n api.Num) api.Value            { return api.Value{Kind: api.Number, N: n} }
func array(l ...api.Value) api.Value        { return api.Value{Kind: api.Array, L: l} }
func object(l ...api.Member) api.Value      { return api.Value{Kind: api.Object, M: l} }
func pair(k string, v api.Value) api.Member { return api.Member{Key: k, V: v} }

// keywords are all that there are, as the chapter's table has them.
func keywords() []string {
	return strings.Fields("type enum const minimum maximum minLength maxLength minItems maxItems uniqueItems required" +
		" items additionalProperties not properties $defs allOf anyOf oneOf $ref")
}

// typeNames are all that there are.
func typeNames() []string { return strings.Fields("null boolean number integer string array object") }

// noKeywords are names that other drafts have, and names that are nearly keywords.
func noKeywords() []string {
	l := strings.Fields("$id $schema $anchor $dynamicRef $dynamicAnchor $vocabulary $comment $recursiveRef id definitions" +
		" prefixItems additionalItems unevaluatedItems contains minContains maxContains patternProperties propertyNames" +
		" unevaluatedProperties minProperties maxProperties dependencies dependentRequired dependentSchemas" +
		" exclusiveMinimum exclusiveMaximum multipleOf pattern format if then else title description default examples" +
		" deprecated readOnly writeOnly contentEncoding contentMediaType contentSchema true false null 0 1 / - $ # ref defs $def $refs")
	l = append(l, typeNames()...)
	l = append(l, "", " ", "\x00", "\xff", "\u00e9", strings.Repeat("type", 5000))
	for _, k := range keywords() {
		l = append(l, k+" ", " "+k, k+"\x00", k+k, k[1:], k[:len(k)-1], strings.ToUpper(k), strings.ToUpper(k[:1])+k[1:], strings.ToLower(k), "/"+k, "$"+k, `"`+k+`"`)
	}
	// Some are keywords again: type is of small letters, and a $ is the same in both cases.
	return slices.DeleteFunc(l, func(s string) bool { return slices.Contains(keywords(), s) })
}

// clone shares no list with v.
func clone(v api.Value) api.Value {
	v.L, v.M = slices.Clone(v.L), slices.Clone(v.M)
	for i := range v.L {
		v.L[i] = clone(v.L[i])
	}
	for i := range v.M {
		v.M[i].V = clone(v.M[i].V)
	}
	return v
}

// of is the value of a text.
func of(t *testing.T, s string) api.Value {
	t.Helper()
	v, err := parse.Parse(s)
	if err != nil {
		t.Fatalf("%.200q is no value: %v", s, err)
	}
	return v
}

// wantCheck asks for a Code itself, or for nothing: P10.1.
func wantCheck(t *testing.T, name string, v api.Value, want error) {
	t.Helper()
	if err := Check(name, v); err != want {
		t.Errorf("Check(%.50q, %.300s) = %v, want %v", name, show.Show(v), err, want)
	}
}

// wantAll asks of a keyword's values, by their texts.
func wantAll(t *testing.T, name string, want error, l ...string) {
	t.Helper()
	for _, s := range l {
		wantCheck(t, name, of(t, s), want)
	}
}

// wantKids asks for kids, each by its key and its value's text, and that all of them are schemas: P10.1, P10.3.
func wantKids(t *testing.T, name string, v api.Value, want ...string) {
	t.Helper()
	var got []string
	for _, m := range Kids(name, v) {
		got = append(got, m.Key+":"+show.Show(m.V))
		if m.V.Kind != api.Bool && m.V.Kind != api.Object || !value.May(m.V) {
			t.Errorf("Kids(%q, %.300s): %.100s is no schema", name, show.Show(v), show.Show(m.V))
		}
	}
	if !slices.Equal(got, want) {
		t.Errorf("Kids(%.50q, %.300s) = %.300q, want %.300q", name, show.Show(v), got, want)
	}
}

// P10.1, Check: type.
func TestType(t *testing.T) {
	for _, a := range typeNames() {
		wantAll(t, "type", nil, `"`+a+`"`, `["`+a+`"]`)
		wantAll(t, "type", api.ErrShape, `"`+a+`s"`, `"`+a+` "`, `" `+a+`"`, `"`+a[1:]+`"`, `"`+a[:len(a)-1]+`"`, `"`+strings.ToUpper(a)+`"`, `"`+a+`\u0000"`, `["`+a+`",""]`)
		wantAll(t, "type", api.ErrShape, `[["`+a+`"]]`, `{"`+a+`":true}`, `{"type":"`+a+`"}`, `["`+a+`",null]`, `["`+a+`",["`+a+`"]]`, `[{},"`+a+`"]`, `["`+a+`","any"]`, `["any","`+a+`"]`)
		for _, b := range typeNames() {
			for _, c := range typeNames() {
				var same, sames error
				if a == b {
					same = api.ErrShape
				}
				if a == b || a == c || b == c {
					sames = api.ErrShape
				}
				wantAll(t, "type", same, `["`+a+`","`+b+`"]`)
				wantAll(t, "type", sames, `["`+a+`","`+b+`","`+c+`"]`)
			}
		}
	}
	all := array()
	for _, a := range typeNames() {
		all.L = append(all.L, text(a))
	}
	wantCheck(t, "type", all, nil)
	slices.Reverse(all.L)
	wantCheck(t, "type", all, nil)
	wantCheck(t, "type", array(append(all.L, text("null"))...), api.ErrShape)
	wantCheck(t, "type", array(append(all.L, text("any"))...), api.ErrShape)
	wantAll(t, "type", api.ErrShape, `[]`, `""`, `[""]`, `null`, `true`, `false`, `0`, `1`, `{}`, `[null]`, `[1]`, `"int"`, `"any"`, `"bool"`, `"null,boolean"`, `"null boolean"`)
}

// P10.1, Check: enum and const. Elements may be the same.
func TestEnumConst(t *testing.T) {
	for _, s := range []string{`null`, `false`, `true`, `0`, `-15e-2`, `""`, `"a"`, `[]`, `[1]`, `[1,1]`, `{}`, `{"a":1}`} {
		wantAll(t, "const", nil, s)
		wantAll(t, "enum", nil, `[`+s+`]`, `[`+s+`,`+s+`]`, `[`+s+`,null,`+s+`]`)
	}
	wantAll(t, "enum", api.ErrShape, `[]`, `null`, `true`, `false`, `0`, `1`, `""`, `"a"`, `"[1]"`, `{}`, `{"a":1}`, `{"0":1}`)
}

// P10.1, Check: minimum and maximum are any Numbers.
func TestNumbers(t *testing.T) {
	for _, name := range []string{"minimum", "maximum"} {
		wantAll(t, name, nil, `0`, `-0`, `1`, `-1`, `-2.5`, `0.1`, `1e1000`, `-1e-1000`, strings.Repeat("9", api.MaxDigits))
		wantAll(t, name, api.ErrShape, `null`, `true`, `false`, `""`, `"0"`, `"1"`, `[]`, `[1]`, `{}`, `{"minimum":1}`)
	}
}

// P10.1, Check: counts are whole, and not below 0, however far up.
func TestCounts(t *testing.T) {
	for _, name := range []string{"minLength", "maxLength", "minItems", "maxItems"} {
		wantAll(t, name, nil, `0`, `-0`, `0.0`, `-0e5`, `1`, `3`, `3.0`, `30e-1`, `10`, `1e5`, `0.1e1`, `1e1000`, `9223372036854775807`, `9223372036854775808`, `18446744073709551616`, strings.Repeat("9", api.MaxDigits))
		wantAll(t, name, api.ErrShape, `-1`, `-10`, `-1.0`, `-1e1000`, `-3`, `-0.5`, `-9223372036854775808`, `0.5`, `2.5`, `1.5`, `1e-1`, `1e-1000`, `-1e-1000`, `9007199254740992.5`, strings.Repeat("9", 59)+".9")
		wantAll(t, name, api.ErrShape, `null`, `true`, `false`, `""`, `"3"`, `[]`, `[1]`, `[0,1]`, `{}`, `{"a":1}`)
	}
}

// P10.1, Check: uniqueItems and $ref; which text it is doesn't matter here.
func TestBoolsTexts(t *testing.T) {
	wantAll(t, "uniqueItems", nil, `true`, `false`)
	wantAll(t, "uniqueItems", api.ErrShape, `null`, `0`, `1`, `""`, `"true"`, `"false"`, `[]`, `[true]`, `{}`, `{"a":true}`)
	wantAll(t, "$ref", nil, `""`, `"#"`, `"#/"`, `"#/$defs/a"`, `"a"`, `"#a"`, `"/"`, `"/~2"`, `"\u0000"`, `"http://example.com/#"`, `"\u00e9\ud83d\ude00"`)
	wantAll(t, "$ref", api.ErrShape, `null`, `true`, `false`, `0`, `1`, `[]`, `["#"]`, `{}`, `{"$ref":"#"}`)
}

// P10.1, Check: required is of texts, of none, too, no two the same.
func TestRequired(t *testing.T) {
	wantAll(t, "required", nil, `[]`, `[""]`, `["a"]`, `["a","b"]`, `["b","a"]`, `["a","A"]`, `["a","a "]`, `["","\u0000"]`, `["\u00e9","e\u0301"]`, `["a","b","aa","ab","ba","bb"]`, `["\uffff","\ud800\udc00"]`)
	wantAll(t, "required", api.ErrShape, `["a","a"]`, `["",""]`, `["a","b","a"]`, `["a","b","b"]`, `["\u00e9","\u00e9"]`, `["a","\u0061"]`, `["a","b","c","d","e","f","g","h","i","a"]`)
	wantAll(t, "required", api.ErrShape, `[1]`, `[null]`, `["a",1]`, `[1,"a"]`, `["a",["b"]]`, `[["a"]]`, `[{}]`, `["a","b",true]`, `null`, `true`, `false`, `1`, `""`, `"a"`, `{}`, `{"a":true}`)
	for n := range 40 {
		l := array()
		for i := range n {
			l.L = append(l.L, text("k"+strconv.Itoa(i*7)))
		}
		wantCheck(t, "required", l, nil)
		for i := range n {
			twice, other := clone(l), clone(l)
			twice.L = append(twice.L, l.L[i])
			wantCheck(t, "required", twice, api.ErrShape)
			other.L[i] = api.Value{}
			wantCheck(t, "required", other, api.ErrShape)
		}
	}
}

// P10.1, Check: schemas are Bools and Objects; what is in them isn't asked.
func TestSchemas(t *testing.T) {
	schemas := []string{`true`, `false`, `{}`, `{"type":"null"}`, `{"none":1}`, `{"type":1}`, `{"not":null}`, `{"":[]}`, `{"allOf":[]}`}
	others := []string{`null`, `0`, `1`, `""`, `"true"`, `"a"`, `[]`, `[true]`, `[{}]`}
	for _, name := range []string{"items", "additionalProperties", "not"} {
		wantAll(t, name, nil, schemas...)
		wantAll(t, name, api.ErrShape, others...)
	}
	for _, name := range []string{"properties", "$defs"} {
		wantAll(t, name, nil, `{}`)
		wantAll(t, name, api.ErrShape, `null`, `true`, `false`, `0`, `""`, `"a"`, `[]`, `[true]`, `[{}]`)
		for _, s := range schemas {
			wantAll(t, name, nil, `{"a":`+s+`}`, `{"":`+s+`,"~/":`+s+`}`, `{"a":true,"b":`+s+`,"c":{}}`)
		}
		for _, s := range others {
			wantAll(t, name, api.ErrShape, `{"a":`+s+`}`, `{"a":`+s+`,"b":true}`, `{"a":true,"b":`+s+`}`, `{"a":true,"b":`+s+`,"c":{}}`)
		}
	}
	for _, name := range []string{"allOf", "anyOf", "oneOf"} {
		wantAll(t, name, api.ErrShape, `[]`, `null`, `true`, `false`, `0`, `""`, `"a"`, `{}`, `{"0":true}`)
		for _, s := range schemas {
			wantAll(t, name, nil, `[`+s+`]`, `[`+s+`,`+s+`]`, `[true,`+s+`,{}]`)
		}
		for _, s := range others {
			wantAll(t, name, api.ErrShape, `[`+s+`]`, `[`+s+`,true]`, `[true,`+s+`]`, `[true,`+s+`,{}]`)
		}
	}
}

// P10.1, Check: what is no keyword, whatever its value.
func TestNoKeywords(t *testing.T) {
	for _, name := range noKeywords() {
		wantAll(t, name, api.ErrKeyword, `null`, `true`, `0`, `3`, `""`, `"null"`, `"#"`, `[]`, `["null"]`, `[true]`, `{}`, `{"a":true}`)
		if Single(name) {
			t.Errorf("Single(%.50q)", name)
		}
	}
}

// P10.1, Single.
func TestSingle(t *testing.T) {
	for _, name := range keywords() {
		if want := name == "items" || name == "additionalProperties" || name == "not"; Single(name) != want {
			t.Errorf("Single(%q) is %v", name, !want)
		}
	}
}

// P10.1, Kids: of values that keywords may have.
func TestKids(t *testing.T) {
	for _, name := range []string{"items", "additionalProperties", "not"} {
		for _, s := range []string{`true`, `false`, `{}`, `{"a":true}`, `{"items":{"not":{}}}`} {
			wantKids(t, name, of(t, s), ":"+s)
		}
	}
	for _, name := range []string{"properties", "$defs"} {
		wantKids(t, name, of(t, `{}`))
		wantKids(t, name, api.Value{Kind: api.Object, M: []api.Member{}})
		wantKids(t, name, of(t, `{"a":true}`), `a:true`)
		wantKids(t, name, of(t, `{"b":false,"a":{"b":{}},"":{},"10":true,"9":{}}`), `:{}`, `10:true`, `9:{}`, `a:{"b":{}}`, `b:false`)
		wantKids(t, name, of(t, `{"\uffff":true,"\ud800\udc00":false,"a/b":{},"a~b":{}}`), `a/b:{}`, `a~b:{}`, "\uffff:true", "\U00010000:false")
	}
	for _, name := range []string{"allOf", "anyOf", "oneOf"} {
		wantKids(t, name, of(t, `[true]`), `0:true`)
		wantKids(t, name, of(t, `[{}]`), `0:{}`)
		wantKids(t, name, of(t, `[false,{"a":[1]},true,true]`), `0:false`, `1:{"a":[1]}`, `2:true`, `3:true`)
		l, want := array(), []string{}
		for i := range 1100 {
			l.L = append(l.L, api.Value{Kind: api.Bool, B: i%3 == 0})
			want = append(want, strconv.Itoa(i)+":"+strconv.FormatBool(i%3 == 0))
		}
		wantKids(t, name, l, want...)
	}
	for name, l := range map[string][]string{
		"type": {`"null"`, `["null","array"]`}, "enum": {`[true]`, `[{},false]`, `[[true]]`}, "const": {`true`, `{}`, `[true]`, `{"a":true}`, `{"a":{}}`, `[{}]`, `null`, `1`},
		"minimum": {`1`}, "maximum": {`1`}, "minLength": {`1`}, "maxLength": {`1`}, "minItems": {`1`}, "maxItems": {`1`},
		"uniqueItems": {`true`, `false`}, "required": {`[]`, `["a"]`, `["a","b"]`}, "$ref": {`"#"`},
	} {
		for _, s := range l {
			wantCheck(t, name, of(t, s), nil)
			wantKids(t, name, of(t, s))
		}
	}
}

// P10.3: of a value that the keyword may not have nothing is told, nor of what is no keyword.
func TestKidsOfOthers(t *testing.T) {
	values := []string{`null`, `true`, `false`, `0`, `1.5`, `-1`, `""`, `"a"`, `[]`, `[1]`, `[true,1]`, `[1,{}]`, `[["null"]]`, `{}`, `{"a":1}`, `{"a":true,"b":null}`}
	for _, s := range values {
		for _, name := range keywords() {
			if v := of(t, s); Check(name, v) != nil {
				wantKids(t, name, v)
			}
		}
		for _, name := range noKeywords() {
			wantKids(t, name, of(t, s))
		}
	}
}

// mayCount tells whether a number's text is of one that is whole, and not below 0.
func mayCount(n json.Number) bool {
	r, ok := new(big.Rat).SetString(string(n))
	return ok && r.IsInt() && r.Sign() >= 0
}

// unlike tells whether all elements are texts, no two the same, held each against each.
func unlike(l []any) bool {
	for i, x := range l {
		if _, ok := x.(string); !ok || slices.Contains(l[:i], x) {
			return false
		}
	}
	return true
}

// schemas tells whether all elements are schemas.
func schemas(l []any) bool {
	return !slices.ContainsFunc(l, func(x any) bool {
		_, isBool := x.(bool)
		_, isObject := x.(map[string]any)
		return !isBool && !isObject
	})
}

// oracle is what Check should tell, of the value as the library reads its text.
func oracle(t *testing.T, name string, v api.Value) error {
	var x any
	d := json.NewDecoder(strings.NewReader(show.Show(v)))
	d.UseNumber()
	if err := d.Decode(&x); err != nil {
		t.Fatal(show.Show(v), err)
	}
	l, isArray := x.([]any)
	m, isObject := x.(map[string]any)
	s, isText := x.(string)
	n, isNumber := x.(json.Number)
	_, isBool := x.(bool)
	rows := map[string]bool{
		"type":    isText && slices.Contains(typeNames(), s) || isArray && len(l) > 0 && unlike(l),
		"enum":    isArray && len(l) > 0,
		"const":   true,
		"minimum": isNumber, "maximum": isNumber,
		"minLength": isNumber && mayCount(n), "maxLength": isNumber && mayCount(n), "minItems": isNumber && mayCount(n), "maxItems": isNumber && mayCount(n),
		"uniqueItems": isBool,
		"required":    isArray && unlike(l),
		"items":       isBool || isObject, "additionalProperties": isBool || isObject, "not": isBool || isObject,
		"properties": isObject, "$defs": isObject,
		"allOf": isArray && len(l) > 0 && schemas(l), "anyOf": isArray && len(l) > 0 && schemas(l), "oneOf": isArray && len(l) > 0 && schemas(l),
		"$ref": isText,
	}
	may, ok := rows[name]
	if !ok {
		return api.ErrKeyword
	}
	if name == "type" && isArray {
		may = may && !slices.ContainsFunc(l, func(x any) bool { return !slices.Contains(typeNames(), x.(string)) })
	}
	if name == "properties" || name == "$defs" {
		for _, kid := range m {
			may = may && schemas([]any{kid})
		}
	}
	if !may {
		return api.ErrShape
	}
	return nil
}

// wantOracle asks for what the oracle has, and for kids as the table has them.
func wantOracle(t *testing.T, name string, v api.Value) bool {
	t.Helper()
	want := oracle(t, name, v)
	wantCheck(t, name, v, want)
	var kids []string
	switch {
	case want != nil:
	case slices.Contains([]string{"items", "additionalProperties", "not"}, name):
		kids = []string{":" + show.Show(v)}
	case slices.Contains([]string{"properties", "$defs"}, name):
		for _, m := range v.M {
			kids = append(kids, m.Key+":"+show.Show(m.V))
		}
	case slices.Contains([]string{"allOf", "anyOf", "oneOf"}, name):
		for i, x := range v.L {
			kids = append(kids, strconv.Itoa(i)+":"+show.Show(x))
		}
	}
	wantKids(t, name, v, kids...)
	return want == nil
}

// randomValue may be, and is often one that some keyword may have.
func randomValue(r *rand.Rand, levels int) api.Value {
	words := append(typeNames(), "", "a", "b", "any", "#", "0")
	kinds := 6
	if levels == 0 {
		kinds = 4
	}
	v := api.Value{Kind: r.Intn(kinds)}
	switch v.Kind {
	case api.Bool:
		v.B = r.Intn(2) == 0
	case api.Number:
		if r.Intn(4) > 0 {
			v.N = api.Num{Neg: r.Intn(3) == 0, Digits: []string{"1", "25", "301"}[r.Intn(3)], Exp: r.Intn(4) - 1}
		}
	case api.String:
		v.S = words[r.Intn(len(words))]
	case api.Array:
		// Elements of one Kind are what most keywords ask for.
		same := r.Intn(3)
		for range r.Intn(5) {
			x := randomValue(r, levels-1)
			switch same {
			case 1:
				x = text(words[r.Intn(len(words))])
			case 2:
				x = []api.Value{{Kind: api.Bool, B: true}, {Kind: api.Object}}[r.Intn(2)]
			}
			v.L = append(v.L, x)
		}
	case api.Object:
		for _, k := range []string{"", "10", "9", "a", "b"} {
			switch r.Intn(6) {
			case 0:
				v.M = append(v.M, pair(k, randomValue(r, levels-1)))
			case 1:
				v.M = append(v.M, pair(k, object()))
			}
		}
	}
	return v
}

// P10.1, P10.3: many values, each of each keyword.
func TestRandom(t *testing.T) {
	r := rand.New(rand.NewSource(1))
	met := map[string][2]int{}
	const all = 4000
	for range all {
		v := randomValue(r, 3)
		if !value.May(v) {
			t.Fatalf("%s may not be", show.Show(v))
		}
		for _, name := range append(keywords(), "none") {
			n := met[name]
			if wantOracle(t, name, v) {
				n[1]++
			} else {
				n[0]++
			}
			met[name] = n
		}
	}
	for _, name := range keywords() {
		if n := met[name]; n[1] < all/30 || name != "const" && n[0] < all/30 {
			t.Error("too few of one kind:", name, n)
		}
	}
}

// smallValues are all of one level, of chosen ones.
func smallValues() []api.Value {
	in := []api.Value{{}, {Kind: api.Bool}, {Kind: api.Bool, B: true}, number(api.Num{}), number(api.Num{Digits: "1"}), number(api.Num{Neg: true, Digits: "1"}), number(api.Num{Digits: "5", Exp: -1}),
		text(""), text("null"), text("integer"), text("x"), array(), object()}
	l := slices.Clone(in)
	for _, a := range in {
		l = append(l, array(a), object(pair("k", a)))
		for _, b := range in {
			l = append(l, array(a, b), object(pair("k", a), pair("l", b)))
			for _, c := range in {
				l = append(l, array(a, b, c))
			}
		}
	}
	return l
}

// P10.1, P10.3: all small values, each of each keyword.
func TestAllSmall(t *testing.T) {
	for _, v := range smallValues() {
		for _, name := range append(keywords(), "", "none") {
			wantOracle(t, name, v)
		}
	}
}

// R2: nothing that is handed in is changed, nor what stands behind its lists.
func TestNothingChanged(t *testing.T) {
	r := rand.New(rand.NewSource(2))
	for range 3000 {
		v := randomValue(r, 3)
		n, m := len(v.L), len(v.M)
		if n > 0 {
			v.L = append(v.L, text("behind"))[:n]
		}
		if m > 0 {
			v.M = append(v.M, pair("behind", text("behind")))[:m]
		}
		before := clone(v)
		for _, name := range append(keywords(), "none") {
			Check(name, v)
			Single(name)
			Kids(name, v)
		}
		if !reflect.DeepEqual(clone(v), before) || n > 0 && v.L[:n+1][n].S != "behind" || m > 0 && v.M[:m+1][m].Key != "behind" {
			t.Fatalf("changed: %s", show.Show(v))
		}
	}
}

// P10.2, R2: nothing is kept from call to call.
func TestTellingAnew(t *testing.T) {
	v := of(t, `[{"a":true},false]`)
	l := Kids("anyOf", v)
	l[0], l[1].Key = pair("x", text("y")), "z"
	_ = append(l, api.Member{})
	wantKids(t, "anyOf", v, `0:{"a":true}`, `1:false`)
	v.L[1] = object()
	wantKids(t, "anyOf", v, `0:{"a":true}`, `1:{}`)
	v.L[1] = text("a")
	wantCheck(t, "anyOf", v, api.ErrShape)
	wantKids(t, "anyOf", v)
	v = of(t, `["a","b"]`)
	wantCheck(t, "required", v, nil)
	wantCheck(t, "required", v, nil)
	v.L[1].S = "a"
	wantCheck(t, "required", v, api.ErrShape)
	v = of(t, `{"a":{}}`)
	wantKids(t, "$defs", v, `a:{}`)
	v.M[0].Key = "b"
	wantKids(t, "$defs", v, `b:{}`)
}

// P1: long lists, and values down to the document's bound of levels, end soon.
func TestDeepAndLong(t *testing.T) {
	const n = 1 << 18
	texts, schemas := array(), array()
	for i := range n {
		texts.L = append(texts.L, text(strconv.Itoa(i)))
		schemas.L = append(schemas.L, object())
	}
	wantLong := func(name string, v api.Value, want error, kids int) {
		t.Helper()
		if err := Check(name, v); err != want || len(Kids(name, v)) != kids {
			t.Error(name, err, len(Kids(name, v)))
		}
	}
	wantLong("required", texts, nil, 0)
	wantLong("enum", texts, nil, 0)
	wantLong("type", texts, api.ErrShape, 0)
	wantLong("oneOf", schemas, nil, n)
	texts.L[n-1] = texts.L[0]
	wantLong("required", texts, api.ErrShape, 0)
	schemas.L[n-1] = array()
	wantLong("oneOf", schemas, api.ErrShape, 0)
	wantLong("type", array(slices.Repeat([]api.Value{text("null")}, n)...), api.ErrShape, 0)
	deep := object()
	for k := range 1<<16 - 3 {
		if k%2 == 0 {
			deep = array(deep)
		} else {
			deep = object(pair("not", deep))
		}
	}
	for _, name := range keywords() {
		for _, v := range []api.Value{deep, array(deep), object(pair("not", deep))} {
			var want error = api.ErrShape
			kids := 0
			schema := v.Kind == api.Object
			inner := append(slices.Clone(v.L), api.Value{})[0]
			if schema {
				inner = v.M[0].V
			}
			switch name {
			case "const":
				want = nil
			case "enum":
				if !schema {
					want = nil
				}
			case "items", "additionalProperties", "not":
				if schema {
					want, kids = nil, 1
				}
			case "properties", "$defs":
				if schema && inner.Kind == api.Object {
					want, kids = nil, 1
				}
			case "allOf", "anyOf", "oneOf":
				if !schema && inner.Kind == api.Object {
					want, kids = nil, 1
				}
			}
			wantLong(name, v, want, kids)
		}
	}
}

// R2: what else is asked at the same time doesn't matter.
func TestAtOnce(t *testing.T) {
	r := rand.New(rand.NewSource(3))
	var l []api.Value
	for range 100 {
		l = append(l, randomValue(r, 3))
	}
	var askers sync.WaitGroup
	for range 8 {
		askers.Go(func() {
			for _, v := range l {
				for _, name := range keywords() {
					wantOracle(t, name, v)
				}
			}
		})
	}
	askers.Wait()
}

// P10.1, P10.3: any value, of any name.
func FuzzCheck(f *testing.F) {
	f.Add("type", `["null","integer"]`)
	f.Add("minItems", `1e5`)
	f.Add("oneOf", `[{},true]`)
	f.Add("$defs", `{"a":{}}`)
	f.Add("none", `["a","a"]`)
	f.Fuzz(func(t *testing.T, name, s string) {
		v, err := parse.Parse(s)
		if err != nil {
			return
		}
		for _, name := range append(keywords(), name) {
			wantOracle(t, name, v)
		}
		if Single(name) != slices.Contains([]string{"items", "additionalProperties", "not"}, name) {
			t.Errorf("Single(%q)", name)
		}
	})
}
