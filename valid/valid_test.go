package valid

import (
	"encoding/json"
	"fmt"
	"math/rand"
	"reflect"
	"slices"
	"strconv"
	"strings"
	"sync"
	"testing"

	"doublet/api"
	"doublet/check"
	"doublet/parse"
	"doublet/ptr"
	"doublet/refs"
	"doublet/schema"
	"doublet/show"
)

func null() api.Value                       { return api.Value{} }
func boolean(b bool) api.Value              { return api.Value{Kind: api.Bool, B: b} }
func text(s string) api.Value               { return api.Value{Kind: api.String, S: s} }
func number(s string) api.Value             { return api.Value{Kind: api.Number, N: api.Num{Digits: s}} }
func array(l ...api.Value) api.Value        { return api.Value{Kind: api.Array, L: l} }
func object(l ...api.Member) api.Value      { return api.Value{Kind: api.Object, M: l} }
func pair(k string, v api.Value) api.Member { return api.Member{Key: k, V: v} }

// fault is a fault by a keyword of the schema at a path.
func fault(instance, path, name string) api.Fault {
	return api.Fault{Instance: instance, Schema: path + "/" + name, Keyword: name}
}

// faultsOf are faults by their texts: of each the instance, and the schema, which ends with the keyword.
func faultsOf(l ...string) []api.Fault {
	var all []api.Fault
	for i := 0; i < len(l); i += 2 {
		at := strings.LastIndex(l[i+1], "/")
		all = append(all, fault(l[i], l[i+1][:at], l[i+1][at+1:]))
	}
	return all
}

// of is the value of a text.
func of(t *testing.T, s string) api.Value {
	t.Helper()
	v, err := parse.Parse(s)
	if err != nil {
		t.Fatalf("%.200q is no value: %v", s, err)
	}
	return v
}

// link are a schema's nodes, linked, if it is one.
func link(v api.Value) ([]api.Node, error) {
	l, err := schema.Compile(v)
	if err != nil {
		return nil, err
	}
	return refs.Link(l)
}

// nodesOf are the nodes of a schema's text.
func nodesOf(t *testing.T, s string) []api.Node {
	t.Helper()
	l, err := link(of(t, s))
	if err != nil {
		t.Fatalf("%.300s is no schema: %v", s, err)
	}
	return l
}

// same asks for two lists of faults to be the same, of a schema's and a value's text.
func same(t *testing.T, s, v string, got, want []api.Fault) {
	t.Helper()
	if !slices.Equal(got, want) {
		t.Errorf("%.500s of %.500s: %.1000q, want %.1000q", s, v, got, want)
	}
}

// wantValid asks what is wrong by a schema, by the texts of faults.
func wantValid(t *testing.T, s, v string, want ...string) {
	t.Helper()
	same(t, s, v, Valid(nodesOf(t, s), 0, of(t, v)), faultsOf(want...))
}

// wantRight asks for nothing to be wrong with values.
func wantRight(t *testing.T, s string, l ...string) {
	t.Helper()
	for _, v := range l {
		wantValid(t, s, v)
	}
}

// values are texts of values of all Kinds.
func values() []string {
	return []string{`null`, `false`, `true`, `0`, `1`, `-1.5`, `""`, `"a"`, `"0"`, `[]`, `[null]`, `[1]`, `[[],[]]`, `{}`, `{"a":1}`, `{"0":null}`, `{"":{}}`, `{"a":1,"b":[{"a":1}]}`}
}

// The chapter's example.
func TestExample(t *testing.T) {
	wantValid(t, `{"items":{"type":"null"}}`, `[1]`, "/0", "/items/type")
}

// P15.3: true, false, and not of these.
func TestTrueFalse(t *testing.T) {
	for _, v := range values() {
		wantValid(t, `true`, v)
		wantValid(t, `{}`, v)
		wantValid(t, `false`, v, "", "/false")
		wantValid(t, `{"not":true}`, v, "", "/not")
		wantValid(t, `{"not":{}}`, v, "", "/not")
		wantValid(t, `{"not":false}`, v)
		wantValid(t, `{"not":{"not":true}}`, v)
		wantValid(t, `{"not":{"not":false}}`, v, "", "/not")
		wantValid(t, `{"not":{"not":{"not":true}}}`, v, "", "/not")
		wantValid(t, `{"allOf":[false,true,false]}`, v, "", "/allOf/0/false", "", "/allOf/2/false")
		wantValid(t, `{"$ref":"#/$defs/a","$defs":{"a":false}}`, v, "", "/$defs/a/false")
		wantValid(t, `{"$defs":{"a":false,"b":{"not":true}}}`, v)
		// By other nodes than the first one, wherever they stand.
		l := nodesOf(t, `{"items":false,"not":true,"properties":{"a":{"not":{}}}}`)
		for i, want := range [][]string{1: {"", "/items/false"}, 2: {}, 3: {"", "/properties/a/not"}, 4: {}} {
			if i > 0 {
				same(t, l[i].Path, v, Valid(l, i, of(t, v)), faultsOf(want...))
			}
		}
	}
}

// P15.1: a value's own keywords.
func TestOwn(t *testing.T) {
	wantValid(t, `{"minimum":2}`, `1`, "", "/minimum")
	wantValid(t, `{"type":"null","minimum":2,"const":3,"maximum":0,"enum":[4]}`, `1`, "", "/const", "", "/enum", "", "/maximum", "", "/minimum", "", "/type")
	wantRight(t, `{"type":"null","minimum":2}`, `null`)
	wantValid(t, `{"required":["a"],"type":"array"}`, `{"b":1}`, "", "/required", "", "/type")
	wantValid(t, `{"minLength":2}`, `"é"`, "", "/minLength")
	wantValid(t, `{"uniqueItems":true,"maxItems":1,"minItems":3}`, `[1,1.0]`, "", "/maxItems", "", "/minItems", "", "/uniqueItems")
}

// P15.1: items: of each element, of Arrays alone, each by its number.
func TestItems(t *testing.T) {
	wantValid(t, `{"items":false}`, `[null,[],{}]`, "/0", "/items/false", "/1", "/items/false", "/2", "/items/false")
	wantRight(t, `{"items":false}`, `[]`, `null`, `true`, `1`, `"a"`, `"[1]"`, `{}`, `{"a":1}`, `{"0":1}`, `{"items":[1]}`)
	wantRight(t, `{"items":true}`, values()...)
	// Of them, not of the Array itself, nor of what is in them.
	wantValid(t, `{"items":{"type":"number"}}`, `[1,[2],"a",4]`, "/1", "/items/type", "/2", "/items/type")
	wantRight(t, `{"items":{"type":"array"}}`, `[[],[1],[[2]]]`)
	wantValid(t, `{"items":{"items":{"items":{"const":1}}}}`, `[1,[1],[[1]],[[2],[1,[2]],3]]`, "/3/0/0", "/items/items/items/const", "/3/1/1", "/items/items/items/const")
	// Places rise as texts do.
	wantValid(t, `{"items":{"const":1}}`, `[0,1,0,1,1,1,1,1,1,0,0,1,0]`, "/0", "/items/const", "/10", "/items/const", "/12", "/items/const", "/2", "/items/const", "/9", "/items/const")
}

// P15.1: properties: of the member of each key, of Objects alone that have it.
func TestProperties(t *testing.T) {
	wantValid(t, `{"properties":{"a":false,"b":false,"c":true}}`, `{"a":1,"c":2,"d":3}`, "/a", "/properties/a/false")
	wantRight(t, `{"properties":{"a":false,"0":false,"":false}}`, `{}`, `{"b":1}`, `{"A":1}`, `{"a ":1}`, `{"00":1}`, `[]`, `[1]`, `["a"]`, `"a"`, `1`, `null`, `true`, `{"b":{"a":1,"0":1,"":1}}`)
	wantRight(t, `{"properties":{}}`, values()...)
	wantValid(t, `{"properties":{"a":{"type":"null"},"b":{"properties":{"a":{"type":"null"}}}}}`, `{"a":1,"b":{"a":2,"b":3}}`, "/a", "/properties/a/type", "/b/a", "/properties/b/properties/a/type")
	// Keys that pointers have otherwise, and keywords as keys.
	wantValid(t, `{"properties":{"":false,"/":false,"a/b":false,"~":false,"~1":false,"é":false,"properties":false}}`, `{"":1,"/":1,"a/b":1,"~":1,"~1":1,"é":1,"properties":1}`,
		"/", "/properties//false", "/a~1b", "/properties/a~1b/false", "/properties", "/properties/properties/false", "/~0", "/properties/~0/false", "/~01", "/properties/~01/false", "/~1", "/properties/~1/false", "/é", "/properties/é/false")
	// A member's value may be null: it is there.
	wantValid(t, `{"properties":{"a":false}}`, `{"a":null}`, "/a", "/properties/a/false")
}

// P15.1: additionalProperties: of each member that the node's own properties don't name.
func TestAdditional(t *testing.T) {
	wantValid(t, `{"additionalProperties":false}`, `{"":1,"a":2,"b/":3}`, "/", "/additionalProperties/false", "/a", "/additionalProperties/false", "/b~1", "/additionalProperties/false")
	wantRight(t, `{"additionalProperties":false}`, `{}`, `[]`, `[1]`, `"a"`, `1`, `null`)
	wantRight(t, `{"additionalProperties":true}`, values()...)
	wantValid(t, `{"additionalProperties":false,"properties":{}}`, `{"a":1}`, "/a", "/additionalProperties/false")
	wantValid(t, `{"additionalProperties":false,"properties":{"a":true,"c":{},"e":true}}`, `{"a":1,"b":2,"c":3,"d":4}`, "/b", "/additionalProperties/false", "/d", "/additionalProperties/false")
	// One that is named is asked by properties alone, whatever is wrong by these.
	wantValid(t, `{"additionalProperties":{"const":1},"properties":{"a":false,"b":{"const":2}}}`, `{"a":1,"b":1,"c":1,"d":2}`, "/a", "/properties/a/false", "/b", "/properties/b/const", "/d", "/additionalProperties/const")
	// Those named elsewhere don't count: beside, above, or by required.
	wantValid(t, `{"additionalProperties":false,"required":["a"],"allOf":[{"properties":{"a":true}}],"$ref":"#/$defs/a","$defs":{"a":{"properties":{"a":true}}}}`, `{"a":1}`, "/a", "/additionalProperties/false")
	wantValid(t, `{"properties":{"a":{"additionalProperties":false}}}`, `{"a":{"a":1}}`, "/a/a", "/properties/a/additionalProperties/false")
	wantValid(t, `{"$defs":{"a":true},"additionalProperties":false}`, `{"a":1}`, "/a", "/additionalProperties/false")
	wantValid(t, `{"additionalProperties":{"additionalProperties":{"type":"null"}}}`, `{"a":{"b":1,"c":null},"d":2}`, "/a/b", "/additionalProperties/additionalProperties/type")
}

// P15.1: allOf and $ref: what is wrong with the value by the kids.
func TestAllOfRef(t *testing.T) {
	wantValid(t, `{"allOf":[{"type":"null"},{"const":1},{"minimum":5,"maximum":0}]}`, `1`, "", "/allOf/0/type", "", "/allOf/2/maximum", "", "/allOf/2/minimum")
	wantRight(t, `{"allOf":[{"type":"number"},{"const":1},true]}`, `1`)
	wantValid(t, `{"allOf":[{"items":{"const":1}},{"items":{"type":"null"}},{"minItems":3}]}`, `[1,2]`, "", "/allOf/2/minItems", "/0", "/allOf/1/items/type", "/1", "/allOf/0/items/const", "/1", "/allOf/1/items/type")
	wantValid(t, `{"allOf":[{"allOf":[{"allOf":[{"allOf":[false]}]}]}]}`, `1`, "", "/allOf/0/allOf/0/allOf/0/allOf/0/false")
	wantValid(t, `{"allOf":[true,true,true,true,true,true,true,true,true,false,false]}`, `1`, "", "/allOf/10/false", "", "/allOf/9/false")
	wantValid(t, `{"$ref":"#/$defs/a","$defs":{"a":{"$ref":"#/$defs/b"},"b":{"maximum":1}}}`, `2`, "", "/$defs/b/maximum")
	// What is beside a $ref counts, too, and a schema that is meant stands where it stands.
	wantValid(t, `{"$ref":"#/items","items":{"type":"array"},"minItems":3}`, `[1,[]]`, "", "/minItems", "/0", "/items/type")
	wantValid(t, `{"$ref":"#/properties/a~1b","properties":{"a/b":{"type":"null"}}}`, `{"a/b":1}`, "", "/properties/a~1b/type", "/a~1b", "/properties/a~1b/type")
	// One node asked on two ways: each fault once.
	wantValid(t, `{"allOf":[{"$ref":"#/$defs/a"},{"$ref":"#/$defs/a"}],"$ref":"#/$defs/a","$defs":{"a":{"type":"null","items":false}}}`, `[1]`, "", "/$defs/a/type", "/0", "/$defs/a/items/false")
	wantValid(t, `{"items":{"$ref":"#/$defs/a"},"allOf":[{"items":{"$ref":"#/$defs/a"}},{"$ref":"#/$defs/b"}],"$defs":{"a":{"maximum":1},"b":{"items":{"$ref":"#/$defs/a"}}}}`, `[0,5]`, "/1", "/$defs/a/maximum")
	// Round and round.
	wantValid(t, `{"type":["array","null"],"items":{"$ref":"#"}}`, `[[],[null,[1,[[2]]]],3]`, "/1/1/0", "/type", "/1/1/1/0/0", "/type", "/2", "/type")
	wantValid(t, `{"properties":{"a":{"$ref":"#"},"b":{"$ref":"#/properties/a"}},"additionalProperties":false}`, `{"a":{"b":{"c":1},"d":1},"b":{"a":{}},"e":1}`, "/a/b/c", "/additionalProperties/false", "/a/d", "/additionalProperties/false", "/e", "/additionalProperties/false")
}

// P15.1: anyOf, oneOf and not: one fault, by how many of their kids nothing is wrong.
func TestCounts(t *testing.T) {
	for kids := 1; kids <= 5; kids++ {
		for right := range 1 << kids {
			var l []string
			n := 0
			for i := range kids {
				l = append(l, []string{`{"type":"null","const":2}`, `{"type":"number"}`}[right>>i&1])
				n += right >> i & 1
			}
			for _, v := range []string{`1`, `7.5`} {
				for _, name := range []string{"anyOf", "oneOf"} {
					s := `{"` + name + `":[` + strings.Join(l, ",") + `]}`
					if name == "anyOf" && n > 0 || n == 1 {
						wantValid(t, s, v)
						wantValid(t, `{"not":`+s+`}`, v, "", "/not")
					} else {
						wantValid(t, s, v, "", "/"+name)
						wantValid(t, `{"items":{"allOf":[true,`+s+`]}}`, `[`+v+`,`+v+`]`, "/0", "/items/allOf/1/"+name, "/1", "/items/allOf/1/"+name)
						wantValid(t, `{"not":`+s+`}`, v)
					}
				}
			}
		}
	}
	wantValid(t, `{"not":{"type":"null"}}`, `null`, "", "/not")
	wantRight(t, `{"not":{"type":"null"}}`, `1`, `[]`, `[null]`)
	// What is wrong deep within a kid is wrong by it, and isn't told itself.
	wantValid(t, `{"anyOf":[{"items":{"items":false}},{"items":{"type":"null"}}]}`, `[[],[1]]`, "", "/anyOf")
	wantRight(t, `{"anyOf":[{"items":{"items":false}},{"items":{"type":"null"}}]}`, `[[],[]]`, `[null]`, `[]`, `1`)
	wantValid(t, `{"oneOf":[{"items":{"items":false}},{"items":{"type":"array"}}]}`, `[[],[]]`, "", "/oneOf")
	wantRight(t, `{"oneOf":[{"items":{"items":false}},{"items":{"type":"array"}}]}`, `[[],[1]]`, `[1]`)
	wantRight(t, `{"not":{"properties":{"a":{"properties":{"b":false}}}}}`, `{"a":{"b":1}}`)
	wantValid(t, `{"not":{"properties":{"a":{"properties":{"b":false}}}}}`, `{"a":{"c":1}}`, "", "/not")
	// Within one another, and several at once.
	wantValid(t, `{"anyOf":[{"not":true},{"oneOf":[true,true]}],"oneOf":[{"anyOf":[false]}],"not":{"not":{"not":{"allOf":[true]}}},"const":2}`, `1`, "", "/anyOf", "", "/const", "", "/not", "", "/oneOf")
	// One and the same node on ways of which one tells it, and others don't.
	wantValid(t, `{"not":{"not":{"$ref":"#/$defs/a"}},"anyOf":[{"$ref":"#/$defs/a"}],"$ref":"#/$defs/a","oneOf":[{"$ref":"#/$defs/a"},true],"$defs":{"a":{"type":"null"}}}`, `1`, "", "/$defs/a/type", "", "/anyOf", "", "/not")
	wantValid(t, `{"items":{"$ref":"#/$defs/a"},"anyOf":[{"items":{"$ref":"#/$defs/a"}}],"$defs":{"a":{"type":"null"}}}`, `[1]`, "", "/anyOf", "/0", "/$defs/a/type")
	wantValid(t, `{"anyOf":[{"items":{"$ref":"#/$defs/a"}}],"$defs":{"a":{"type":"null"}}}`, `[1]`, "", "/anyOf")
}

// P15.1: the faults rise: by instance, then schema, then keyword, byte by byte.
func TestRising(t *testing.T) {
	wantValid(t, `{"additionalProperties":{"additionalProperties":{"type":"null"},"minimum":9,"type":"object"},"type":"null"}`, `{"a":{"b":1,"":1,"~":2},"a!":3,"a/":4,"a~":{"0":5},"B":6,"":7}`,
		"", "/type", "/", "/additionalProperties/minimum", "/", "/additionalProperties/type", "/B", "/additionalProperties/minimum", "/B", "/additionalProperties/type", "/a!", "/additionalProperties/minimum", "/a!", "/additionalProperties/type",
		"/a/", "/additionalProperties/additionalProperties/type", "/a/b", "/additionalProperties/additionalProperties/type", "/a/~0", "/additionalProperties/additionalProperties/type", "/a~0/0", "/additionalProperties/additionalProperties/type",
		"/a~1", "/additionalProperties/minimum", "/a~1", "/additionalProperties/type")
}

// read is a value as the library reads its text.
func read(t *testing.T, v api.Value) any {
	var x any
	d := json.NewDecoder(strings.NewReader(show.Show(v)))
	d.UseNumber()
	if err := d.Decode(&x); err != nil {
		t.Fatal(show.Show(v), err)
	}
	return x
}

// oracle goes by the chapter's words, from schema to schema by their texts, way by way, till it has asked too much.
type oracle struct {
	nodes map[string]api.Node
	s     any
	v     api.Value
	x     any
	left  int
}

// newOracle is one of a schema and a value.
func newOracle(t *testing.T, s, v api.Value) *oracle {
	o := &oracle{nodes: map[string]api.Node{}, s: read(t, s), v: v, x: read(t, v)}
	l, err := schema.Compile(s)
	if err != nil {
		t.Fatal(err)
	}
	for _, n := range l {
		o.nodes[n.Path] = n
	}
	return o
}

// escaped is a name in a pointer.
func escaped(name string) string {
	return strings.ReplaceAll(strings.ReplaceAll(name, "~", "~0"), "/", "~1")
}

// schemaAt is the schema of a path.
func (o *oracle) schemaAt(path string) any {
	x := o.s
	for _, name := range strings.Split(path, "/")[1:] {
		name = strings.ReplaceAll(strings.ReplaceAll(name, "~1", "/"), "~0", "~")
		switch y := x.(type) {
		case []any:
			i, _ := strconv.Atoi(name)
			x = y[i]
		case map[string]any:
			x = y[name]
		}
	}
	return x
}

// wrong is all that is wrong with the value at names, which x is, by the schema of a path, in no order.
func (o *oracle) wrong(path string, x any, names []string) []api.Fault {
	var all []api.Fault
	if o.left--; o.left < 0 {
		return nil
	}
	fails := func(name string) {
		instance := ""
		for _, n := range names {
			instance += "/" + escaped(n)
		}
		all = append(all, fault(instance, path, name))
	}
	within := func(sub, name string, y any) {
		all = append(all, o.wrong(path+sub, y, append(slices.Clone(names), name))...)
	}
	v, _ := ptr.Get(o.v, names)
	for _, name := range check.Own(o.nodes[path], v) {
		fails(name)
	}
	s, _ := o.schemaAt(path).(map[string]any)
	l, isArray := x.([]any)
	m, isObject := x.(map[string]any)
	right := func(name string) int {
		n := 0
		for i := range s[name].([]any) {
			if len(o.wrong(path+"/"+name+"/"+strconv.Itoa(i), x, names)) == 0 {
				n++
			}
		}
		return n
	}
	properties, _ := s["properties"].(map[string]any)
	for name, k := range s {
		switch name {
		case "items":
			for i, y := range l {
				if isArray {
					within("/items", strconv.Itoa(i), y)
				}
			}
		case "properties":
			for key := range properties {
				if y, ok := m[key]; ok && isObject {
					within("/properties/"+escaped(key), key, y)
				}
			}
		case "additionalProperties":
			for key, y := range m {
				if _, ok := properties[key]; !ok {
					within("/additionalProperties", key, y)
				}
			}
		case "allOf":
			for i := range k.([]any) {
				all = append(all, o.wrong(path+"/allOf/"+strconv.Itoa(i), x, names)...)
			}
		case "$ref":
			all = append(all, o.wrong(k.(string)[1:], x, names)...)
		case "anyOf":
			if right(name) == 0 {
				fails(name)
			}
		case "oneOf":
			if right(name) != 1 {
				fails(name)
			}
		case "not":
			if len(o.wrong(path+"/not", x, names)) == 0 {
				fails(name)
			}
		}
	}
	return all
}

// rising are faults in order, each once.
func rising(l []api.Fault) []api.Fault {
	slices.SortFunc(l, func(a, b api.Fault) int {
		if a.Instance != b.Instance {
			return strings.Compare(a.Instance, b.Instance)
		}
		if a.Schema != b.Schema {
			return strings.Compare(a.Schema, b.Schema)
		}
		return strings.Compare(a.Keyword, b.Keyword)
	})
	var told []api.Fault
	for i, f := range l {
		if i == 0 || l[i-1] != f {
			told = append(told, f)
		}
	}
	return told
}

// want is what Valid should tell by the node of a path, if that isn't too much to be asked.
func (o *oracle) want(path string) ([]api.Fault, bool) {
	o.left = 1000
	l := rising(o.wrong(path, o.x, nil))
	return l, o.left >= 0
}

// wantAsks is what Asks should tell.
func wantAsks(n api.Node, v api.Value) []Ask {
	own := map[string]bool{}
	for _, k := range n.Keys {
		for _, kid := range k.Kids {
			own[kid.Key] = own[kid.Key] || k.Name == "properties"
		}
	}
	var all []Ask
	for i, k := range n.Keys {
		for _, kid := range k.Kids {
			for at := range v.L {
				if k.Name == "items" && v.Kind == api.Array {
					all = append(all, Ask{i, kid.Node, false, fmt.Sprint(at), at})
				}
			}
			for at, m := range v.M {
				if v.Kind == api.Object && (k.Name == "properties" && m.Key == kid.Key || k.Name == "additionalProperties" && !own[m.Key]) {
					all = append(all, Ask{i, kid.Node, false, m.Key, at})
				}
			}
			if slices.Contains([]string{"allOf", "anyOf", "oneOf", "not", "$ref"}, k.Name) {
				all = append(all, Ask{Key: i, Node: kid.Node, Here: true})
			}
		}
	}
	return all
}

// wantJoin is what Join should tell.
func wantJoin(n api.Node, own []string, a []Ask, l [][]api.Fault) []api.Fault {
	var all []api.Fault
	for _, name := range own {
		all = append(all, fault("", n.Path, name))
	}
	for i, k := range n.Keys {
		right, asked := 0, 0
		for j, x := range a {
			if x.Key != i {
				continue
			}
			asked++
			if len(l[j]) == 0 {
				right++
			}
			for _, f := range l[j] {
				switch k.Name {
				case "allOf", "$ref":
					all = append(all, f)
				case "items", "properties", "additionalProperties":
					f.Instance = "/" + escaped(x.Name) + f.Instance
					all = append(all, f)
				}
			}
		}
		if k.Name == "anyOf" && right == 0 || k.Name == "oneOf" && right != 1 || k.Name == "not" && right == asked {
			all = append(all, fault("", n.Path, k.Name))
		}
	}
	return rising(all)
}

// P15.1: what is asked, in order, by the document's table.
func TestAsks(t *testing.T) {
	here := func(k, n int) Ask { return Ask{Key: k, Node: n, Here: true} }
	for _, c := range []struct {
		s, v string
		want []Ask
	}{
		{`true`, `[1]`, nil},
		{`false`, `{"a":1}`, nil},
		{`{}`, `[1]`, nil},
		{`{"type":"null","const":[1],"enum":[1],"required":["a"],"uniqueItems":true,"minItems":1,"minimum":1}`, `[1,2]`, nil},
		{`{"$defs":{"a":false,"b":{"items":false}}}`, `{"a":1}`, nil},
		{`{"items":{}}`, `["a",[],{}]`, []Ask{{0, 1, false, "0", 0}, {0, 1, false, "1", 1}, {0, 1, false, "2", 2}}},
		{`{"items":{}}`, `{"0":1}`, nil},
		{`{"items":{}}`, `[]`, nil},
		{`{"items":{}}`, `"a"`, nil},
		{`{"const":1,"properties":{"":{},"0":true,"b":false,"d/":{}}}`, `{"":1,"a":2,"b":3,"c":4,"d/":5}`, []Ask{{1, 1, false, "", 0}, {1, 3, false, "b", 2}, {1, 4, false, "d/", 4}}},
		{`{"properties":{"0":{}}}`, `[1]`, nil},
		{`{"additionalProperties":{},"properties":{"b":{"properties":{"a":{}}}}}`, `{"a":1,"b":2,"c~":3}`, []Ask{{0, 1, false, "a", 0}, {0, 1, false, "c~", 2}, {1, 2, false, "b", 1}}},
		{`{"$defs":{"a":{}},"additionalProperties":{}}`, `{"a":1}`, []Ask{{1, 2, false, "a", 0}}},
		{`{"additionalProperties":{}}`, `[1]`, nil},
		{`{"$ref":"#/$defs/a","$defs":{"a":{"not":{}}},"allOf":[{},{"items":{}}],"anyOf":[{},true],"not":{},"oneOf":[{}]}`, `1`, []Ask{here(1, 1), here(2, 3), here(2, 4), here(3, 6), here(3, 7), here(4, 8), here(5, 9)}},
		{`{"allOf":[{},{}],"items":{"$ref":"#"}}`, `[1,2]`, []Ask{here(0, 1), here(0, 2), {1, 3, false, "0", 0}, {1, 3, false, "1", 1}}},
	} {
		if got := Asks(nodesOf(t, c.s)[0], of(t, c.v)); !slices.Equal(got, c.want) {
			t.Errorf("Asks(%s, %s) = %v, want %v", c.s, c.v, got, c.want)
		}
	}
	l := nodesOf(t, `{"items":{"$ref":"#"}}`)
	if got := Asks(l[1], of(t, `[1]`)); !slices.Equal(got, []Ask{here(0, 0)}) {
		t.Errorf("Asks of a $ref to # = %v", got)
	}
	long := array()
	for i := range 12345 {
		long.L = append(long.L, null())
		if a := (Ask{0, 1, false, strconv.Itoa(i), i}); i%1000 == 0 && Asks(l[0], long)[i] != a {
			t.Errorf("element %d isn't %v", i, a)
		}
	}
}

// P15.1: what is joined: own names, what is passed on, and counts.
func TestJoin(t *testing.T) {
	x, y, z := fault("", "/x", "not"), fault("/0", "/x", "type"), fault("/a~1", "", "type")
	list := func(l ...api.Fault) []api.Fault { return l }
	for _, c := range []struct {
		s, v string
		own  []string
		l    [][]api.Fault
		want []api.Fault
	}{
		{`true`, `1`, nil, nil, nil},
		{`false`, `1`, []string{"false"}, nil, list(fault("", "", "false"))},
		{`{"type":"null","const":1}`, `2`, []string{"type", "const"}, nil, list(fault("", "", "const"), fault("", "", "type"))},
		{`{"type":"null","const":1}`, `2`, nil, nil, nil},
		{`{"items":{}}`, `[1,2,3]`, nil, [][]api.Fault{list(y, x), nil, list(z)}, list(fault("/0", "/x", "not"), fault("/0/0", "/x", "type"), fault("/2/a~1", "", "type"))},
		{`{"properties":{"":{},"~/":{}}}`, `{"":1,"~/":2}`, []string{"type"}, [][]api.Fault{list(x, z), list(y)}, list(fault("", "", "type"), fault("/", "/x", "not"), fault("//a~1", "", "type"), fault("/~0~1/0", "/x", "type"))},
		{`{"additionalProperties":{},"properties":{"b":{}}}`, `{"a":1,"b":2}`, nil, [][]api.Fault{list(x), list(x)}, list(fault("/a", "/x", "not"), fault("/b", "/x", "not"))},
		{`{"allOf":[{},{},{}]}`, `1`, []string{"type"}, [][]api.Fault{list(x, z), nil, list(z, y, x)}, list(fault("", "", "type"), x, y, z)},
		{`{"$ref":"#/$defs/a","$defs":{"a":{}}}`, `1`, nil, [][]api.Fault{list(x, y, z)}, list(x, y, z)},
		{`{"anyOf":[{},{}]}`, `1`, nil, [][]api.Fault{list(x), list(y, z)}, list(fault("", "", "anyOf"))},
		{`{"anyOf":[{},{}]}`, `1`, nil, [][]api.Fault{list(x), {}}, nil},
		{`{"oneOf":[{},{},{}]}`, `1`, nil, [][]api.Fault{list(x), nil, {}}, list(fault("", "", "oneOf"))},
		{`{"oneOf":[{},{},{}]}`, `1`, nil, [][]api.Fault{list(x), nil, list(x)}, nil},
		{`{"oneOf":[{},{},{}]}`, `1`, nil, [][]api.Fault{list(x), list(z), list(x)}, list(fault("", "", "oneOf"))},
		{`{"not":{}}`, `1`, nil, [][]api.Fault{{}}, list(fault("", "", "not"))},
		{`{"not":{}}`, `1`, nil, [][]api.Fault{list(x, y)}, nil},
		{`{"anyOf":[{}],"not":{},"oneOf":[{}]}`, `1`, []string{"const"}, [][]api.Fault{list(x), nil, list(y)}, list(fault("", "", "anyOf"), fault("", "", "const"), fault("", "", "not"), fault("", "", "oneOf"))},
		{`{"allOf":[{}],"items":{}}`, `[1]`, nil, [][]api.Fault{list(fault("/0", "/x", "not")), list(x)}, list(fault("/0", "/x", "not"))},
	} {
		n := nodesOf(t, c.s)[0]
		same(t, c.s, c.v, Join(n, c.own, Asks(n, of(t, c.v)), c.l), c.want)
	}
	// The faults are of the node's own path.
	n := nodesOf(t, `{"properties":{"a/b":{"not":{},"type":"null"}}}`)[1]
	same(t, n.Path, `1`, Join(n, []string{"type"}, Asks(n, of(t, `1`)), [][]api.Fault{nil}), list(fault("", "/properties/a~1b", "not"), fault("", "/properties/a~1b", "type")))
}

// randomValue may be, and is often the same as another one.
func randomValue(r *rand.Rand, levels int) api.Value {
	kinds := 6
	if levels == 0 {
		kinds = 4
	}
	v := api.Value{Kind: max(r.Intn(kinds+2)-2, 0)}
	if levels > 1 && r.Intn(3) > 0 {
		v.Kind = 4 + r.Intn(2)
	}
	switch v.Kind {
	case api.Bool:
		v.B = r.Intn(2) == 0
	case api.Number:
		v = number([]string{"1", "2", "3"}[r.Intn(3)])
	case api.String:
		v.S = []string{"", "a", "ab"}[r.Intn(3)]
	case api.Array:
		for range r.Intn(4) {
			v.L = append(v.L, randomValue(r, levels-1))
		}
	case api.Object:
		for _, k := range []string{"", "0", "a", "b", "c/~"} {
			if r.Intn(5) < 2 {
				v.M = append(v.M, pair(k, randomValue(r, levels-1)))
			}
		}
	}
	return v
}

// randomSchema is a schema, if its references are.
func randomSchema(r *rand.Rand, levels int, top bool) api.Value {
	if !top && (levels <= 0 || r.Intn(10) == 0) {
		switch r.Intn(5) {
		case 0:
			return boolean(r.Intn(2) == 0)
		case 1:
			return object(pair("type", text([]string{"null", "number", "array", "object", "string"}[r.Intn(5)])))
		case 2:
			return object(pair([]string{"minItems", "maxItems", "minimum", "maximum", "minLength"}[r.Intn(5)], number("2")))
		}
		return object(pair("$ref", text([]string{"#", "#/$defs/a", "#/$defs/b", "#/items", "#/properties/a", "#/allOf/1", "#/not"}[r.Intn(7)])))
	}
	one := func() api.Value { return randomSchema(r, levels-1, false) }
	s := object()
	for _, name := range strings.Fields("$defs $ref additionalProperties allOf anyOf const items maxItems minimum not oneOf properties required type uniqueItems") {
		if r.Intn(5) > 0 && !(top && (name == "$defs" || name == "items" || name == "properties")) {
			continue
		}
		var k api.Value
		switch name {
		case "$defs":
			k = object(pair("a", one()), pair("b", one()))
		case "$ref":
			k = text([]string{"#/$defs/a", "#/$defs/b", "#/items", "#/properties/a"}[r.Intn(4)])
		case "additionalProperties", "items", "not":
			k = one()
		case "properties":
			k = object()
			for _, key := range []string{"", "0", "a", "c/~"} {
				if key == "a" || r.Intn(3) == 0 {
					k.M = append(k.M, pair(key, one()))
				}
			}
		case "allOf", "anyOf", "oneOf":
			k = array(one())
			for range r.Intn(3) {
				k.L = append(k.L, one())
			}
		case "const":
			k = randomValue(r, 1)
		case "maxItems", "minimum":
			k = number("2")
		case "required":
			k = array(text("a"))
		case "type":
			k = text([]string{"null", "number", "array", "object"}[r.Intn(4)])
		case "uniqueItems":
			k = boolean(true)
		}
		s.M = append(s.M, pair(name, k))
	}
	return s
}

// randomLinked is a schema with its nodes.
func randomLinked(r *rand.Rand, levels int) (api.Value, []api.Node) {
	for {
		s := randomSchema(r, levels, true)
		if l, err := link(s); err == nil {
			return s, l
		}
	}
}

// wantAll asks for what all nodes of a schema tell of a value.
func wantAll(t *testing.T, s api.Value, l []api.Node, v api.Value) {
	t.Helper()
	o := newOracle(t, s, v)
	for i, n := range l {
		got := Valid(l, i, v)
		if want, known := o.want(n.Path); known && !slices.Equal(got, want) {
			t.Fatalf("Valid(%s, %q, %s) = %q, want %q", show.Show(s), n.Path, show.Show(v), got, want)
		}
		a := Asks(n, v)
		if want := wantAsks(n, v); !slices.Equal(a, want) {
			t.Fatalf("Asks(%s, %q, %s) = %v, want %v", show.Show(s), n.Path, show.Show(v), a, want)
		}
		// What is joined of each is what is wrong.
		if joined := Join(n, check.Own(n, v), a, each(l, a, v)); !slices.Equal(joined, got) {
			t.Fatalf("Join(%s, %q, %s) = %q, want %q", show.Show(s), n.Path, show.Show(v), joined, got)
		}
	}
}

// each is what is wrong by each that is asked.
func each(l []api.Node, a []Ask, v api.Value) [][]api.Fault {
	var all [][]api.Fault
	for _, x := range a {
		y := v
		if !x.Here && v.Kind == api.Array {
			y = v.L[x.At]
		} else if !x.Here {
			y = v.M[x.At].V
		}
		all = append(all, Valid(l, x.Node, y))
	}
	return all
}

// P15.1: many schemas, all their nodes, and many values.
func TestRandom(t *testing.T) {
	r := rand.New(rand.NewSource(1))
	fails := map[string]int{}
	for range 600 {
		s, l := randomLinked(r, 2+r.Intn(2))
		for range 3 {
			v := randomValue(r, 4)
			wantAll(t, s, l, v)
			for _, f := range Valid(l, 0, v) {
				fails[f.Keyword]++
			}
		}
	}
	for _, name := range strings.Fields("anyOf const false maxItems minItems minimum not oneOf required type uniqueItems") {
		if fails[name] < 10 {
			t.Errorf("only %d failed by %s", fails[name], name)
		}
	}
}

// P15.1: all small schemas, and all small values.
func TestAllSmall(t *testing.T) {
	flat := []string{`true`, `false`, `{"type":"null"}`, `{"const":1}`}
	schemas := slices.Clone(flat)
	for _, a := range flat {
		for _, name := range []string{"items", "additionalProperties", "not"} {
			schemas = append(schemas, `{"`+name+`":`+a+`}`)
		}
		schemas = append(schemas, `{"properties":{"a":`+a+`}}`, `{"$ref":"#/$defs/a","$defs":{"a":`+a+`}}`, `{"items":`+a+`,"minItems":2}`)
		for _, b := range flat {
			for _, name := range []string{"allOf", "anyOf", "oneOf"} {
				schemas = append(schemas, `{"`+name+`":[`+a+`,`+b+`]}`)
			}
			schemas = append(schemas, `{"properties":{"a":`+a+`},"additionalProperties":`+b+`}`)
		}
	}
	flatValues := []string{`null`, `1`, `2`}
	small := append(slices.Clone(flatValues), `[]`, `{}`)
	for _, a := range flatValues {
		small = append(small, `[`+a+`]`, `{"a":`+a+`}`, `{"b":`+a+`}`, `[[`+a+`]]`, `{"a":{"a":`+a+`}}`)
		for _, b := range flatValues {
			small = append(small, `[`+a+`,`+b+`]`, `{"a":`+a+`,"b":`+b+`}`)
		}
	}
	for _, a := range schemas {
		for _, ahead := range []string{"", `/items`, `/not`, `/allOf/0`, `/properties/a`} {
			// References go from the front.
			s := strings.ReplaceAll(a, "#", "#"+ahead)
			switch ahead {
			case "/items", "/not":
				s = `{"` + ahead[1:] + `":` + s + `}`
			case "/allOf/0":
				s = `{"allOf":[` + s + `]}`
			case "/properties/a":
				s = `{"properties":{"a":` + s + `}}`
			}
			k, l := of(t, s), nodesOf(t, s)
			for _, v := range small {
				wantAll(t, k, l, of(t, v))
			}
		}
	}
}

// P15.1: Join of any lists that rise.
func TestRandomJoin(t *testing.T) {
	r := rand.New(rand.NewSource(2))
	pool := []api.Fault{fault("", "", "type"), fault("", "/not", "const"), fault("/a", "", "type"), fault("/0", "/items", "type"), fault("/a~1", "/x", "false"), fault("", "/anyOf/0", "not")}
	for range 20000 {
		s, l := randomLinked(r, 1)
		v, n := randomValue(r, 2), l[r.Intn(len(l))]
		a := Asks(n, v)
		var lists [][]api.Fault
		for range a {
			var list []api.Fault
			for _, f := range pool {
				if r.Intn(5) == 0 {
					list = append(list, f)
				}
			}
			lists = append(lists, rising(list))
		}
		own := check.Own(n, v)
		want := wantJoin(n, own, a, lists)
		if got := Join(n, own, a, lists); !slices.Equal(got, want) {
			t.Fatalf("Join(%s, %q, %v, %q) = %q, want %q", show.Show(s), own, a, lists, got, want)
		}
	}
}

// behind is a list with room behind its elements, in which something stands.
func behind[T any](l []T, x T) []T { return append(slices.Clone(l), x, x, x)[:len(l)] }

// whole is a list with all that stands behind it.
func whole[T any](l []T) []T { return slices.Clone(l[:cap(l)]) }

// room is v with room behind all its lists.
func room(v api.Value) api.Value {
	if v.L != nil {
		v.L = behind(v.L, text("behind"))
		for i := range v.L {
			v.L[i] = room(v.L[i])
		}
	}
	if v.M != nil {
		v.M = behind(v.M, pair("behind", null()))
		for i := range v.M {
			v.M[i].V = room(v.M[i].V)
		}
	}
	return v
}

// wholeValue is v with all that stands behind its lists.
func wholeValue(v api.Value) api.Value {
	v.L, v.M = whole(v.L), whole(v.M)
	for i := range v.L {
		v.L[i] = wholeValue(v.L[i])
	}
	for i := range v.M {
		v.M[i].V = wholeValue(v.M[i].V)
	}
	return v
}

// roomOf are nodes with room behind all their lists.
func roomOf(l []api.Node) []api.Node {
	l = behind(l, api.Node{Path: "behind"})
	for i, n := range l {
		l[i].Keys = behind(n.Keys, api.Key{Name: "behind"})
		for j, k := range l[i].Keys {
			l[i].Keys[j].V = room(k.V)
			l[i].Keys[j].Kids = behind(k.Kids, api.Kid{Key: "behind"})
		}
	}
	return l
}

// wholeNodes are nodes with all that stands behind their lists.
func wholeNodes(l []api.Node) []api.Node {
	l = whole(l)
	for i := range l {
		l[i].Keys = whole(l[i].Keys)
		for j := range l[i].Keys {
			l[i].Keys[j].V = wholeValue(l[i].Keys[j].V)
			l[i].Keys[j].Kids = whole(l[i].Keys[j].Kids)
		}
	}
	return l
}

// R2: what is handed in isn't changed, nor what stands behind it.
func TestNothingChanged(t *testing.T) {
	r := rand.New(rand.NewSource(3))
	for range 2000 {
		s, l := randomLinked(r, 2)
		v := room(randomValue(r, 3))
		l = roomOf(l)
		wantL, wantV := wholeNodes(l), wholeValue(v)
		for i, n := range l {
			Valid(l, i, v)
			a := behind(Asks(n, v), Ask{Name: "behind"})
			own := behind(check.Own(n, v), "behind")
			lists := behind(each(l, a, v), nil)
			for j := range lists {
				// Lists out of order stay so.
				slices.Reverse(lists[j])
				lists[j] = behind(lists[j], api.Fault{Instance: "behind"})
			}
			wantA, wantOwn := whole(a), whole(own)
			var wantLists [][]api.Fault
			for _, list := range lists {
				wantLists = append(wantLists, whole(list))
			}
			Join(n, own, a, lists)
			var gotLists [][]api.Fault
			for _, list := range lists {
				gotLists = append(gotLists, whole(list))
			}
			if !slices.Equal(whole(a), wantA) || !slices.Equal(whole(own), wantOwn) || !reflect.DeepEqual(gotLists, wantLists) {
				t.Fatalf("Join of %s, %s: its lists are changed", show.Show(s), show.Show(v))
			}
		}
		if !reflect.DeepEqual(wholeNodes(l), wantL) || !reflect.DeepEqual(wholeValue(v), wantV) {
			t.Fatalf("%s, %s are changed", show.Show(s), show.Show(v))
		}
	}
}

// P15.2: what is told is new memory: what happens to it happens to nothing else.
func TestTellingAnew(t *testing.T) {
	other := api.Fault{Instance: "other"}
	for s, v := range map[string]string{`false`: `1`, `{"items":{"type":"null"},"minItems":3}`: `[1,2]`, `{"$ref":"#/$defs/a","$defs":{"a":{"const":1,"type":"null"}}}`: `2`, `{"allOf":[{"const":1,"type":"null"}]}`: `2`,
		`{"properties":{"a":{"$ref":"#/properties/b"},"b":{"type":"null","const":1}}}`: `{"a":2,"b":3}`, `{"anyOf":[{"const":1,"type":"null"}],"not":{}}`: `2`} {
		l, x := nodesOf(t, s), of(t, v)
		first, second := Valid(l, 0, x), Valid(l, 0, x)
		want := slices.Clone(second)
		for i := range first {
			first[i] = other
		}
		_ = append(first, other)
		same(t, s, v, second, want)
		same(t, s, v, Valid(l, 0, x), want)
		a, b := Asks(l[0], x), Asks(l[0], x)
		wantA := slices.Clone(b)
		for i := range a {
			a[i] = Ask{Name: "other"}
		}
		_ = append(a, Ask{Name: "other"})
		if !slices.Equal(b, wantA) || !slices.Equal(Asks(l[0], x), wantA) {
			t.Errorf("%s, %s: one list of what is asked is told twice", s, v)
		}
		// What is joined isn't what was handed in, though it be the same.
		lists := each(l, b, x)
		own := check.Own(l[0], x)
		joined := Join(l[0], own, b, lists)
		for i := range joined {
			joined[i] = other
		}
		_ = append(joined, other)
		if !reflect.DeepEqual(lists, each(l, b, x)) {
			t.Errorf("%s, %s: what was joined is what was handed in", s, v)
		}
		joined = Join(l[0], own, b, lists)
		for _, list := range lists {
			for i := range list {
				list[i] = other
			}
		}
		same(t, s, v, joined, want)
	}
}

// R2: what else is asked, before or at the same time, doesn't matter.
func TestAtOnce(t *testing.T) {
	r := rand.New(rand.NewSource(4))
	type ask struct {
		l    []api.Node
		v    api.Value
		want []api.Fault
	}
	var asks []ask
	for len(asks) < 200 {
		s, l := randomLinked(r, 2)
		v := randomValue(r, 3)
		if want, known := newOracle(t, s, v).want(""); known {
			asks = append(asks, ask{l, v, want})
		}
	}
	var askers sync.WaitGroup
	for range 8 {
		askers.Go(func() {
			for range 10 {
				for _, a := range asks {
					if got := Valid(a.l, 0, a.v); !slices.Equal(got, a.want) {
						t.Errorf("%q, want %q", got, a.want)
					}
				}
			}
		})
	}
	askers.Wait()
}

// P1: more ways to one node of one value than can be gone.
func TestManyWays(t *testing.T) {
	for _, name := range []string{"allOf", "anyOf", "oneOf"} {
		defs := []string{`"a100":{"type":"null","items":{"type":"null"}}`}
		for i := 101; i < 150; i++ {
			under := fmt.Sprintf(`{"$ref":"#/$defs/a%d"}`, i-1)
			defs = append(defs, fmt.Sprintf(`"a%d":{"%s":[%s,%s]}`, i, name, under, under))
		}
		s := `{"$defs":{` + strings.Join(defs, ",") + `},"$ref":"#/$defs/a149"}`
		if name == "allOf" {
			wantValid(t, s, `[1]`, "", "/$defs/a100/type", "/0", "/$defs/a100/items/type")
			wantRight(t, s, `null`)
		} else {
			wantValid(t, s, `[1]`, "", "/$defs/a149/"+name)
		}
	}
	// Each level has two ways into the next.
	for _, within := range []string{`{"items":{"$ref":"#"}}`, `{"properties":{"a":{"$ref":"#"}}}`, `{"additionalProperties":{"$ref":"#"}}`} {
		l := nodesOf(t, `{"allOf":[`+within+`,`+within+`],"anyOf":[`+within+`,`+within+`],"not":{"const":1}}`)
		for _, wrap := range []func(api.Value) api.Value{func(v api.Value) api.Value { return array(v) }, func(v api.Value) api.Value { return object(pair("a", v)) }} {
			good, bad := number("2"), number("1")
			var names []string
			for range 300 {
				good, bad = wrap(good), wrap(bad)
				names = append(names, map[bool]string{true: "0", false: "a"}[bad.Kind == api.Array])
			}
			if got := Valid(l, 0, good); len(got) > 0 {
				t.Errorf("%s: %d faults", within, len(got))
			}
			got := Valid(l, 0, bad)
			if asked := strings.Contains(within, "items") == (bad.Kind == api.Array); !asked {
				if len(got) > 0 {
					t.Errorf("%s: %d faults", within, len(got))
				}
				continue
			}
			// At each level anyOf fails, and at the last one not.
			var want []api.Fault
			for i := range names {
				want = append(want, fault(ptr.Show(names[:i]), "", "anyOf"))
			}
			same(t, within, "deep", got, append(want, fault(ptr.Show(names), "", "not")))
		}
	}
}

// P1: as many nodes as there may be, each asked of the value itself behind the one ahead of it.
func TestManyNodes(t *testing.T) {
	s := boolean(false)
	for range api.MaxNodes - 1 {
		s = object(pair("not", s))
	}
	l, err := link(s)
	if err != nil || len(l) != api.MaxNodes {
		t.Fatal(len(l), err)
	}
	for i := range l {
		var want []api.Fault
		switch back := api.MaxNodes - 1 - i; {
		case back == 0:
			want = []api.Fault{fault("", l[i].Path, "false")}
		case back%2 == 0:
			want = []api.Fault{fault("", l[i].Path, "not")}
		}
		same(t, l[i].Path, `1`, Valid(l, i, null()), want)
	}
	properties := object()
	for i := range api.MaxNodes - 2 {
		properties.M = append(properties.M, pair(fmt.Sprintf("k%04d", i*2), boolean(false)))
	}
	l, err = link(object(pair("additionalProperties", boolean(false)), pair("properties", properties)))
	if err != nil || len(l) != api.MaxNodes {
		t.Fatal(len(l), err)
	}
	v := object()
	var want []api.Fault
	for i := range 1000 {
		key := fmt.Sprintf("k%04d", i)
		v.M = append(v.M, pair(key, null()))
		path := "/additionalProperties"
		if i%2 == 0 && i/2 < api.MaxNodes-2 {
			path = "/properties/" + key
		}
		want = append(want, fault("/"+key, path, "false"))
	}
	same(t, "many properties", "many members", Valid(l, 0, v), want)
}

// P1: long values.
func TestLong(t *testing.T) {
	const n = 200000
	list, members := array(), object()
	var places []string
	for i := range n {
		s := strconv.Itoa(i)
		list.L = append(list.L, number("1"+s))
		places = append(places, s)
	}
	slices.Sort(places)
	for _, s := range places {
		members.M = append(members.M, pair(s, array(null())))
	}
	wantEach := func(got []api.Fault, behind, path, name string) {
		t.Helper()
		if len(got) != n {
			t.Fatalf("%s: %d faults, want %d", path, len(got), n)
		}
		for i, f := range got {
			if want := fault("/"+places[i]+behind, path, name); f != want {
				t.Fatalf("fault %d is %q, want %q", i, f, want)
			}
		}
	}
	l := nodesOf(t, `{"items":{"type":"null"},"additionalProperties":{"items":{"not":true}}}`)
	wantEach(Valid(l, 0, list), "", "/items", "type")
	wantEach(Valid(l, 0, members), "/0", "/additionalProperties/items", "not")
	l = nodesOf(t, `{"anyOf":[{"items":{"type":"null"}},{"additionalProperties":{"items":{"type":"null"}}}],"items":{"minimum":1},"additionalProperties":{"items":{"const":null}},"oneOf":[{"items":false},{"items":true}]}`)
	same(t, "anyOf", "long", Valid(l, 0, list), nil)
	same(t, "oneOf", "long", Valid(l, 0, members), faultsOf("", "/oneOf"))
}

// P1: values down to the document's bound of levels, one fault at the end, or at each of many.
func TestDeep(t *testing.T) {
	l := nodesOf(t, `{"items":{"allOf":[{"$ref":"#"}]},"properties":{"a":{"anyOf":[false,{"$ref":"#"}]}},"type":["array","object","null"]}`)
	const levels = 1<<16 - 4
	lists, objects := number("1"), number("1")
	for range levels {
		lists, objects = array(lists), object(pair("a", objects))
	}
	same(t, "type", "deep lists", Valid(l, 0, lists), []api.Fault{fault(strings.Repeat("/0", levels), "", "type")})
	same(t, "anyOf", "deep objects", Valid(l, 0, objects), []api.Fault{fault("/a", "/properties/a", "anyOf")})
	// Each level with a fault of its own.
	l = nodesOf(t, `{"items":{"$ref":"#"},"minItems":2}`)
	v := array(null(), null())
	var want []api.Fault
	const some = 8000
	for i := range some {
		v = array(v)
		want = append(want, fault(strings.Repeat("/0", i), "", "minItems"))
	}
	same(t, "minItems", "deep", Valid(l, 0, v), want)
	// As many nodes in place at each level as there may be.
	s := object(pair("items", object(pair("$ref", text("#")))))
	for range api.MaxNodes - 3 {
		s = object(pair("allOf", array(s)))
	}
	l, err := link(s)
	if err != nil {
		t.Fatal(err)
	}
	same(t, "nothing", "deep", Valid(l, 0, v), nil)
}

// FuzzValid asks of any schema's nodes and any value what the oracle has.
func FuzzValid(f *testing.F) {
	for _, s := range []string{`false`, `{"items":{"type":"null"}}`, `{"properties":{"a":{"$ref":"#"}},"additionalProperties":{"not":{}}}`, `{"anyOf":[{"type":"null"},{"items":{"$ref":"#"}}]}`, `{"oneOf":[{"$ref":"#/$defs/a"},{"minItems":1}],"$defs":{"a":{"const":1}}}`, `{"allOf":[{"required":["a"]},{"$ref":"#/allOf/0"}]}`} {
		for _, v := range values() {
			f.Add(s, v)
		}
	}
	f.Fuzz(func(t *testing.T, s, text string) {
		k, err := parse.Parse(s)
		v, bad := parse.Parse(text)
		// The oracle goes every way: of few there is an end in time.
		if err != nil || bad != nil || len(s) > 150 || len(text) > 100 {
			return
		}
		l, err := link(k)
		if err != nil {
			return
		}
		wantAll(t, k, l, v)
	})
}
