package schema

import (
	"encoding/json"
	"errors"
	"fmt"
	"math/rand"
	"reflect"
	"slices"
	"strconv"
	"strings"
	"sync"
	"testing"

	"doublet/api"
	"doublet/parse"
	"doublet/ptr"
	"doublet/show"
	"doublet/value"
)

func text(s string) api.Value               { return api.Value{Kind: api.String, S: s} }
func truth(b bool) api.Value                { return api.Value{Kind: api.Bool, B: b} }
func number(n api.Num) api.Value            { return api.Value{Kind: api.Number, N: n} }
func array(l ...api.Value) api.Value        { return api.Value{Kind: api.Array, L: l} }
func object(l ...api.Member) api.Value      { return api.Value{Kind: api.Object, M: l} }
func pair(k string, v api.Value) api.Member { return api.Member{Key: k, V: v} }

// clone shares no list with v.
func clone(v api.Value) api.Value {
	v.L, v.M = slices.Clone(v.L), slices.Clone(v.M)
	for i := range v.L {
		v.L[i] = clone(v.L[i])
	}
	for i := range v.M {
		v.M[i].V = clone(v.M[i].V)
	}
	return v
}

// of is the value of a text.
func of(t *testing.T, s string) api.Value {
	t.Helper()
	v, err := parse.Parse(s)
	if err != nil {
		t.Fatalf("%.200q is no value: %v", s, err)
	}
	return v
}

// written is a node as a line: its Path; true, false, or its keywords, each with its value and its kids.
func written(n api.Node) string {
	return line(n, func(v api.Value) string { return "=" + show.Show(v) })
}

// short is a node as a line, without its keywords' values.
func short(n api.Node) string {
	return line(n, func(api.Value) string { return "" })
}

// line is a node as a line, its keywords' values as they are written.
func line(n api.Node, valueText func(api.Value) string) string {
	if n.All {
		return fmt.Sprintf("%q %v %d", n.Path, n.Pass, len(n.Keys))
	}
	s := fmt.Sprintf("%q", n.Path)
	if n.Pass {
		s += " passes"
	}
	for _, k := range n.Keys {
		s += fmt.Sprintf(" %q%s", k.Name, valueText(k.V))
		for _, kid := range k.Kids {
			s += fmt.Sprintf(" %q:%d", kid.Key, kid.Node)
		}
	}
	return s
}

// wantNodes asks for nodes, each as it is written: P11.1.
func wantNodes(t *testing.T, v api.Value, want ...string) {
	t.Helper()
	wantLines(t, v, written, want)
}

// wantLines asks for nodes, each as its line has it: P11.1, P11.3.
func wantLines(t *testing.T, v api.Value, lineOf func(api.Node) string, want []string) {
	t.Helper()
	l, err := Compile(v)
	if err != nil {
		t.Errorf("Compile(%.300s): %v", show.Show(v), err)
		return
	}
	var got []string
	for _, n := range l {
		got = append(got, lineOf(n))
	}
	if !slices.Equal(got, want) {
		t.Errorf("Compile(%.300s) =\n%.3000s\nwant\n%.3000s", show.Show(v), strings.Join(got, "\n"), strings.Join(want, "\n"))
	}
	wantNumbered(t, v, l)
}

// wantError asks for a Spell itself, and for no nodes beside it: P11.1, R3.
func wantError(t *testing.T, v api.Value, path string, code api.Code) {
	t.Helper()
	l, err := Compile(v)
	if s, ok := err.(*api.Spell); !ok || s == nil || s.Path != path || s.Code != code || !errors.Is(err, code) || len(l) != 0 {
		t.Errorf("Compile(%.300s) = %d nodes, %.300v, want %v at %.300q", show.Show(v), len(l), err, code, path)
	}
}

// wantNumbered asks what follows for nodes: P11.3, and that each but the first is one schema's kid,
// and stands in the value where its Path says.
func wantNumbered(t *testing.T, v api.Value, l []api.Node) {
	t.Helper()
	paths, kids := map[string]bool{}, map[int]bool{0: true}
	for i, n := range l {
		if paths[n.Path] {
			t.Errorf("Compile(%.300s): %q twice", show.Show(v), n.Path)
		}
		paths[n.Path] = true
		wantThere(t, v, n)
		for _, key := range n.Keys {
			for _, kid := range key.Kids {
				if kid.Node <= i || kid.Node >= len(l) || kids[kid.Node] {
					t.Errorf("Compile(%.300s): %q has %d", show.Show(v), n.Path, kid.Node)
				}
				kids[kid.Node] = true
			}
		}
	}
	if len(kids) != len(l) || len(l) > api.MaxNodes {
		t.Errorf("Compile(%.300s): %d nodes, %d kids", show.Show(v), len(l), len(kids))
	}
}

// wantThere asks that a node is of the schema that stands where its Path says.
func wantThere(t *testing.T, v api.Value, n api.Node) {
	t.Helper()
	names, err := ptr.Parse(n.Path)
	if err != nil {
		t.Fatalf("%.300q: %v", n.Path, err)
	}
	at, err := ptr.Get(v, names)
	if err != nil {
		t.Fatalf("Compile(%.300s): %.300q: %v", show.Show(v), n.Path, err)
	}
	same := n.All == (at.Kind == api.Bool) && n.Pass == at.B && len(n.Keys) == len(at.M)
	for i := range at.M {
		same = same && n.Keys[i].Name == at.M[i].Key && value.Same(n.Keys[i].V, at.M[i].V)
	}
	if !same {
		t.Errorf("Compile(%.300s): %.300s, of %.300s", show.Show(v), written(n), show.Show(at))
	}
}

// P11.1: schemas that are one node.
func TestOneNode(t *testing.T) {
	wantNodes(t, of(t, `true`), `"" true 0`)
	wantNodes(t, of(t, `false`), `"" false 0`)
	wantNodes(t, of(t, `{}`), `""`)
	wantNodes(t, api.Value{Kind: api.Object, M: []api.Member{}}, `""`)
	wantNodes(t, of(t, `{"type":"null"}`), `"" "type"="null"`)
	wantNodes(t, of(t, `{"properties":{},"$defs":{}}`), `"" "$defs"={} "properties"={}`)
	wantNodes(t, of(t, `{"$ref":"#/a","const":{"not":true},"enum":[{"x":1},true],"required":["items"]}`),
		`"" "$ref"="#/a" "const"={"not":true} "enum"=[{"x":1},true] "required"=["items"]`)
	wantNodes(t, of(t, `{"uniqueItems":true,"type":["null","array"],"minimum":-1,"maximum":1.5,"minLength":0,"maxLength":1,"minItems":2,"maxItems":3}`),
		`"" "maxItems"=3 "maxLength"=1 "maximum"=15e-1 "minItems"=2 "minLength"=0 "minimum"=-1 "type"=["null","array"] "uniqueItems"=true`)
}

// P11.1: kids, of each keyword that has some.
func TestKids(t *testing.T) {
	for _, name := range []string{"items", "additionalProperties", "not"} {
		wantNodes(t, of(t, `{"`+name+`":true}`), `"" "`+name+`"=true "":1`, `"/`+name+`" true 0`)
		wantNodes(t, of(t, `{"`+name+`":{"type":"null"}}`), `"" "`+name+`"={"type":"null"} "":1`, `"/`+name+`" "type"="null"`)
	}
	for _, name := range []string{"allOf", "anyOf", "oneOf"} {
		wantNodes(t, of(t, `{"`+name+`":[false]}`), `"" "`+name+`"=[false] "0":1`, `"/`+name+`/0" false 0`)
		wantNodes(t, of(t, `{"`+name+`":[{},true,{}]}`), `"" "`+name+`"=[{},true,{}] "0":1 "1":2 "2":3`, `"/`+name+`/0"`, `"/`+name+`/1" true 0`, `"/`+name+`/2"`)
	}
	for _, name := range []string{"properties", "$defs"} {
		wantNodes(t, of(t, `{"`+name+`":{"a":true}}`), `"" "`+name+`"={"a":true} "a":1`, `"/`+name+`/a" true 0`)
		wantNodes(t, of(t, `{"`+name+`":{"":{}}}`), `"" "`+name+`"={"":{}} "":1`, `"/`+name+`/"`)
		// Keys rise byte by byte, and a pointer's text has its own of ~ and /.
		wantNodes(t, of(t, `{"`+name+`":{"9":true,"10":false,"~/":{},"":{},"~1":true,"/":true}}`),
			`"" "`+name+`"={"":{},"/":true,"10":false,"9":true,"~/":{},"~1":true} "":1 "/":2 "10":3 "9":4 "~/":5 "~1":6`,
			`"/`+name+`/"`, `"/`+name+`/~1" true 0`, `"/`+name+`/10" false 0`, `"/`+name+`/9" true 0`, `"/`+name+`/~0~1"`, `"/`+name+`/~01" true 0`)
		// What is named like a keyword there is a kid.
		wantNodes(t, of(t, `{"`+name+`":{"items":{"items":true},"x":false}}`), `"" "`+name+`"={"items":{"items":true},"x":false} "items":1 "x":3`,
			`"/`+name+`/items" "items"=true "":2`, `"/`+name+`/items/items" true 0`, `"/`+name+`/x" false 0`)
	}
}

// P11.1: nodes are told depth first.
func TestDepthFirst(t *testing.T) {
	wantNodes(t, of(t, `{"properties":{"b":{"not":{"not":true}},"a":{"allOf":[{"items":true},false]}},"$defs":{"z":{"$ref":"#"}},"items":{"properties":{"a":true}}}`),
		`"" "$defs"={"z":{"$ref":"#"}} "z":1 "items"={"properties":{"a":true}} "":2 "properties"={"a":{"allOf":[{"items":true},false]},"b":{"not":{"not":true}}} "a":4 "b":8`,
		`"/$defs/z" "$ref"="#"`,
		`"/items" "properties"={"a":true} "a":3`,
		`"/items/properties/a" true 0`,
		`"/properties/a" "allOf"=[{"items":true},false] "0":5 "1":7`,
		`"/properties/a/allOf/0" "items"=true "":6`,
		`"/properties/a/allOf/0/items" true 0`,
		`"/properties/a/allOf/1" false 0`,
		`"/properties/b" "not"={"not":true} "":9`,
		`"/properties/b/not" "not"=true "":10`,
		`"/properties/b/not/not" true 0`)
}

// P11.1: what is no schema at all.
func TestNoSchema(t *testing.T) {
	for _, s := range []string{`null`, `0`, `1`, `-1e3`, `""`, `"a"`, `"true"`, `[]`, `[true]`, `[{}]`, `[1,{"x":1}]`} {
		wantError(t, of(t, s), "", api.ErrSchema)
	}
}

// P11.1: keywords' errors, with where they are.
func TestKeywordErrors(t *testing.T) {
	for _, c := range []struct {
		s, path string
		code    api.Code
	}{
		{`{"":1}`, "/", api.ErrKeyword}, {`{"x":true}`, "/x", api.ErrKeyword}, {`{"a/b~c":true}`, "/a~1b~0c", api.ErrKeyword}, {`{"~1":{}}`, "/~01", api.ErrKeyword},
		{`{"$id":""}`, "/$id", api.ErrKeyword}, {`{"if":true}`, "/if", api.ErrKeyword}, {`{"Type":"null"}`, "/Type", api.ErrKeyword}, {`{"type":"any"}`, "/type", api.ErrShape},
		{`{"minItems":-1}`, "/minItems", api.ErrShape}, {`{"enum":[]}`, "/enum", api.ErrShape}, {`{"required":["a","a"]}`, "/required", api.ErrShape}, {`{"$ref":{}}`, "/$ref", api.ErrShape},
		{`{"items":[true]}`, "/items", api.ErrShape}, {`{"not":null}`, "/not", api.ErrShape}, {`{"allOf":[]}`, "/allOf", api.ErrShape}, {`{"allOf":[{},null]}`, "/allOf", api.ErrShape},
		{`{"properties":{"a":1}}`, "/properties", api.ErrShape}, {`{"$defs":true}`, "/$defs", api.ErrShape},
		// Of several: as nodes are told, so by rising names.
		{`{"b":1,"a":1}`, "/a", api.ErrKeyword}, {`{"type":1,"enum":1}`, "/enum", api.ErrShape}, {`{"type":1,"u":1}`, "/type", api.ErrShape}, {`{"type":1,"t":1}`, "/t", api.ErrKeyword},
		// A keyword's error comes ahead of what is in it,
		{`{"allOf":[{"x":1},1]}`, "/allOf", api.ErrShape}, {`{"properties":{"a":{"x":1},"b":1}}`, "/properties", api.ErrShape}, {`{"x":{"y":1}}`, "/x", api.ErrKeyword},
		// and behind all of the keywords ahead of it, with all within them.
		{`{"allOf":[true,{"not":{"type":1}}],"anyOf":[]}`, "/allOf/1/not/type", api.ErrShape}, {`{"properties":{"a":{"y":1}},"q":1}`, "/properties/a/y", api.ErrKeyword}, {`{"properties":{"a":{"y":1}},"p":1}`, "/p", api.ErrKeyword},
		{`{"$defs":{"b":{"x":1},"a":{"not":{"not":{"z":1}}}}}`, "/$defs/a/not/not/z", api.ErrKeyword}, {`{"$defs":{"b":{"x":1},"a":{"not":{}}}}`, "/$defs/b/x", api.ErrKeyword},
		{`{"anyOf":[{"type":"null"},{"x":1},{"a":1}]}`, "/anyOf/1/x", api.ErrKeyword}, {`{"items":{"additionalProperties":{"/":1}}}`, "/items/additionalProperties/~1", api.ErrKeyword},
		{`{"properties":{"~/":{"":1}}}`, "/properties/~0~1/", api.ErrKeyword}, {`{"properties":{"":{"":1}}}`, "/properties//", api.ErrKeyword},
		{`{"not":{"b":1},"items":{"c":1}}`, "/items/c", api.ErrKeyword},
		// What stands in no schema is no keyword.
		{`{"const":{"x":1},"enum":[{"y":1}],"z":1}`, "/z", api.ErrKeyword},
	} {
		wantError(t, of(t, c.s), c.path, c.code)
	}
}

// many is an Array of n schemas.
func many(n int, v api.Value) api.Value { return array(slices.Repeat([]api.Value{v}, n)...) }

// P11.1: there may be MaxNodes nodes.
func TestMaxNodes(t *testing.T) {
	const n = api.MaxNodes
	wantCount := func(v api.Value) {
		t.Helper()
		if l, err := Compile(v); err != nil || len(l) != n {
			t.Errorf("%d nodes, %v", len(l), err)
		} else {
			wantNumbered(t, v, l)
		}
	}
	for _, kid := range []api.Value{truth(true), truth(false), object(), object(pair("type", text("null")))} {
		wantCount(object(pair("anyOf", many(n-1, kid))))
		wantError(t, object(pair("anyOf", many(n, kid))), "/anyOf/199", api.ErrLarge)
		wantError(t, object(pair("anyOf", many(5*n, kid))), "/anyOf/199", api.ErrLarge)
		wantCount(object(pair("allOf", many(100, kid)), pair("anyOf", many(99, kid))))
		wantError(t, object(pair("allOf", many(100, kid)), pair("anyOf", many(99, kid)), pair("not", kid)), "/not", api.ErrLarge)
		wantError(t, object(pair("allOf", many(100, object(pair("items", kid))))), "/allOf/99/items", api.ErrLarge)
		wantError(t, object(pair("allOf", many(101, object(pair("items", kid))))), "/allOf/99/items", api.ErrLarge)
	}
	var chain api.Value
	wantChain := func(levels int, want string) {
		t.Helper()
		chain = truth(true)
		for range levels {
			chain = object(pair("not", chain))
		}
		if want == "" {
			wantCount(chain)
		} else {
			wantError(t, chain, want, api.ErrLarge)
		}
	}
	wantChain(n-1, "")
	wantChain(n, strings.Repeat("/not", n))
	wantChain(3*n, strings.Repeat("/not", n))
	members := object()
	for i := range n {
		members.M = append(members.M, pair("a/"+strconv.Itoa(1000+i), truth(i%2 == 0)))
	}
	wantError(t, object(pair("properties", members)), "/properties/a~11199", api.ErrLarge)
	members.M = members.M[:n-1]
	wantCount(object(pair("properties", members)))
	// What isn't a schema doesn't count.
	wantCount(object(pair("anyOf", many(n-1, object(pair("enum", many(n, object())))))))
}

// P11.1: too many nodes, and keywords' errors: the one that is met first.
func TestLargeOrKeyword(t *testing.T) {
	const n = api.MaxNodes
	amiss, none, one := object(pair("x", object())), api.Value{}, number(api.Num{Digits: "1"})
	wantError(t, object(pair("anyOf", many(n, object())), pair("b", none)), "/anyOf/199", api.ErrLarge)
	wantError(t, object(pair("allOf", one), pair("anyOf", many(n, object()))), "/allOf", api.ErrShape)
	wantError(t, object(pair("anyOf", many(n+1, object())), pair("not", none)), "/anyOf/199", api.ErrLarge)
	wantError(t, object(pair("anyOf", many(n-1, object())), pair("not", none)), "/not", api.ErrShape)
	wantError(t, object(pair("anyOf", many(n-1, object())), pair("not", amiss)), "/not", api.ErrLarge)
	wantError(t, object(pair("anyOf", many(n-2, object())), pair("not", amiss)), "/not/x", api.ErrKeyword)
	wantError(t, object(pair("anyOf", array(append(many(n-1, object()).L, amiss)...))), "/anyOf/199", api.ErrLarge)
	wantError(t, object(pair("anyOf", array(append(many(n-2, object()).L, amiss)...))), "/anyOf/198/x", api.ErrKeyword)
	wantError(t, object(pair("anyOf", array(append(many(n-2, object()).L, amiss, object())...))), "/anyOf/198/x", api.ErrKeyword)
	// One value amiss, however far on, is the keyword's own, and so ahead of what is in it.
	wantError(t, object(pair("anyOf", array(append(many(n+5, object()).L, none)...))), "/anyOf", api.ErrShape)
	wantError(t, object(pair("$defs", object(pair("a", many(1, none)))), pair("anyOf", many(n, object()))), "/$defs", api.ErrShape)
}

// told is what the telling of a schema meets: a node, or an error.
type told struct {
	path, node string
	code       api.Code
}

// tellAll is all that the telling of a schema meets if it doesn't stop at errors, as the
// chapter's words have it, of the text's value as the library reads it.
func tellAll(x any, path string, first int) []told {
	m, isObject := x.(map[string]any)
	if !isObject {
		return []told{{path: path, node: fmt.Sprintf("%q %v 0", path, x)}}
	}
	var names []string
	for name := range m {
		names = append(names, name)
	}
	slices.Sort(names)
	// The line of the node itself is known when all within it is.
	l, line, count := []told{{path: path}}, fmt.Sprintf("%q", path), first+1
	for _, name := range names {
		at := path + "/" + strings.NewReplacer("~", "~0", "/", "~1").Replace(name)
		if code := codeOf(name, m[name]); code != 0 {
			l = append(l, told{path: at, code: code})
			continue
		}
		line += fmt.Sprintf(" %q", name)
		keys, kids := kidsOf(name, m[name])
		for i, key := range keys {
			within := at
			if name != "items" && name != "not" && name != "additionalProperties" {
				within += "/" + strings.NewReplacer("~", "~0", "/", "~1").Replace(key)
			}
			line += fmt.Sprintf(" %q:%d", key, count)
			for _, e := range tellAll(kids[i], within, count) {
				l = append(l, e)
				if e.code == 0 {
					count++
				}
			}
		}
	}
	l[0].node = line
	return l
}

// codeOf is a keyword's error, of the names and values that random schemas have.
func codeOf(name string, x any) api.Code {
	_, isBool := x.(bool)
	m, isObject := x.(map[string]any)
	l, isArray := x.([]any)
	s, isText := x.(string)
	_, isNumber := x.(float64)
	ok := false
	switch name {
	case "items", "not", "additionalProperties":
		ok = isBool || isObject
	case "allOf", "anyOf", "oneOf":
		ok = isArray && len(l) > 0
		for _, kid := range l {
			ok = ok && codeOf("not", kid) == 0
		}
	case "properties", "$defs":
		ok = isObject
		for _, kid := range m {
			ok = ok && codeOf("not", kid) == 0
		}
	case "type":
		ok = isText && s == "object"
	case "$ref":
		ok = isText
	case "const":
		ok = true
	case "minimum":
		ok = isNumber
	default:
		return api.ErrKeyword
	}
	if !ok {
		return api.ErrShape
	}
	return 0
}

// kidsOf are the schemas in a keyword's value, with their keys.
func kidsOf(name string, x any) (keys []string, kids []any) {
	switch name {
	case "items", "not", "additionalProperties":
		return []string{""}, []any{x}
	case "allOf", "anyOf", "oneOf":
		for i, kid := range x.([]any) {
			keys, kids = append(keys, strconv.Itoa(i)), append(kids, kid)
		}
	case "properties", "$defs":
		for key := range x.(map[string]any) {
			keys = append(keys, key)
		}
		slices.Sort(keys)
		for _, key := range keys {
			kids = append(kids, x.(map[string]any)[key])
		}
	}
	return keys, kids
}

// wantOracle asks for what the oracle meets up to its first error, and tells that error's code.
func wantOracle(t *testing.T, v api.Value) api.Code {
	t.Helper()
	var x any
	if err := json.Unmarshal([]byte(show.Show(v)), &x); err != nil {
		t.Fatal(show.Show(v), err)
	}
	if v.Kind != api.Bool && v.Kind != api.Object {
		wantError(t, v, "", api.ErrSchema)
		return api.ErrSchema
	}
	var nodes []string
	for _, e := range tellAll(x, "", 0) {
		if e.code == 0 && len(nodes) == api.MaxNodes {
			e.code = api.ErrLarge
		}
		if e.code != 0 {
			wantError(t, v, e.path, e.code)
			return e.code
		}
		nodes = append(nodes, e.node)
	}
	wantLines(t, v, short, nodes)
	return 0
}

// maker makes random schemas, of so many more at most.
type maker struct {
	r           *rand.Rand
	wide, amiss int
	left        int
}

// isAmiss is so of one in n times amiss (never, if amiss is 0).
func (m *maker) isAmiss(n int) bool { return m.amiss > 0 && m.r.Intn(n*m.amiss) == 0 }

// schema is a schema of all keywords that have kids, and some that have none.
func (m *maker) schema(levels int) api.Value {
	m.left--
	if m.isAmiss(4) {
		return api.Value{}
	}
	if levels == 0 || m.left < 0 || m.r.Intn(6) == 0 {
		return truth(m.r.Intn(2) == 0)
	}
	v := object()
	for _, name := range []string{"$defs", "$ref", "additionalProperties", "allOf", "anyOf", "const", "items", "minimum", "not", "oneOf", "properties", "type"} {
		if m.r.Intn(4) > 0 {
			continue
		}
		x := m.keyword(name, levels)
		if m.isAmiss(1) {
			x = []api.Value{{}, array(), array(object()), text("x"), object(), object(pair("a", text("b"))), truth(true), number(api.Num{})}[m.r.Intn(8)]
		}
		if m.isAmiss(1) {
			name += []string{"/", "~", "x"}[m.r.Intn(3)]
		}
		v.M = append(v.M, pair(name, x))
	}
	slices.SortFunc(v.M, func(a, b api.Member) int { return strings.Compare(a.Key, b.Key) })
	return v
}

// keyword is a value that the keyword may have, but for what is amiss in it.
func (m *maker) keyword(name string, levels int) api.Value {
	switch name {
	case "$ref":
		return text("#")
	case "type":
		return text("object")
	case "minimum":
		return number(api.Num{Digits: "25", Exp: -1})
	case "const":
		return array(object(pair("not", object())), text("x"))
	case "allOf", "anyOf", "oneOf":
		l := array()
		for range 1 + m.r.Intn(m.wide) {
			l.L = append(l.L, m.schema(levels-1))
		}
		return l
	case "$defs", "properties":
		kids := object()
		for _, key := range []string{"", "/", "10", "9", "a", "not", "~", "~1"}[:1+m.r.Intn(min(m.wide, 8))] {
			kids.M = append(kids.M, pair(key, m.schema(levels-1)))
		}
		return kids
	}
	return m.schema(levels - 1)
}

// P11.1, P11.3: many schemas, amiss or not, with too many nodes or not.
func TestRandom(t *testing.T) {
	r := rand.New(rand.NewSource(1))
	met := map[api.Code]int{}
	const all = 2000
	for k := range all {
		m := maker{r: r, wide: 1 + k%7, amiss: []int{0, 0, 10, 40, 160}[k%5], left: 250}
		v := m.schema(1 + k%6)
		if !value.May(v) {
			t.Fatalf("%s may not be", show.Show(v))
		}
		met[wantOracle(t, v)]++
	}
	for _, code := range []api.Code{0, api.ErrKeyword, api.ErrShape, api.ErrLarge} {
		if met[code] < all/30 {
			t.Error("too few of one kind:", met)
		}
	}
}

// parts are what small schemas are made of: schemas, and others.
func parts() []string {
	return []string{`true`, `false`, `{}`, `null`, `1`, `"#"`, `[]`, `{"x":1}`, `{"not":true}`, `{"not":1}`, `[{}]`, `[{},{"x":1}]`, `{"a":{"not":{}}}`}
}

// P11.1, P11.3: all small schemas, of one keyword or two, alone or within another one.
func TestAllSmall(t *testing.T) {
	names := []string{"", "$defs", "$ref", "allOf", "anyOf", "const", "items", "not", "properties", "x"}
	for _, a := range parts() {
		wantOracle(t, of(t, a))
		for i, name := range names {
			one := `"` + name + `":` + a
			wantOracle(t, of(t, `{`+one+`}`))
			wantOracle(t, of(t, `{"items":{`+one+`}}`))
			wantOracle(t, of(t, `{"oneOf":[true,{`+one+`}]}`))
			for _, b := range parts() {
				for _, other := range names[i+1:] {
					wantOracle(t, of(t, `{"`+other+`":`+b+`,`+one+`}`))
				}
			}
		}
	}
}

// R2: nothing that is handed in is changed, nor what stands behind its lists.
func TestNothingChanged(t *testing.T) {
	r := rand.New(rand.NewSource(2))
	for k := range 1000 {
		m := maker{r: r, wide: 4, amiss: []int{0, 20}[k%2], left: 250}
		v := m.schema(4)
		n := len(v.M)
		if n > 0 {
			v.M = append(v.M, pair("behind", text("behind")))[:n]
		}
		before := clone(v)
		Compile(v)
		if !reflect.DeepEqual(clone(v), before) || n > 0 && v.M[:n+1][n].Key != "behind" {
			t.Fatalf("changed: %s", show.Show(v))
		}
	}
}

// R2, LANGUAGE 7: nothing is kept from call to call, and no two lists of one answer are one.
func TestTellingAnew(t *testing.T) {
	v := of(t, `{"allOf":[{"items":true},{"not":false}],"anyOf":[true]}`)
	want := []string{`"" "allOf"=[{"items":true},{"not":false}] "0":1 "1":3 "anyOf"=[true] "0":5`, `"/allOf/0" "items"=true "":2`, `"/allOf/0/items" true 0`,
		`"/allOf/1" "not"=false "":4`, `"/allOf/1/not" false 0`, `"/anyOf/0" true 0`}
	l, err := Compile(v)
	if err != nil {
		t.Fatal(err)
	}
	for i, n := range l {
		for _, key := range n.Keys {
			_ = append(key.Kids, api.Kid{Key: "more", Node: 9})
		}
		_ = append(n.Keys, api.Key{Name: "more"})
		if written(n) != want[i] {
			t.Error(written(n), want[i])
		}
	}
	for i, n := range l {
		for k := range n.Keys {
			clear(n.Keys[k].Kids)
		}
		clear(n.Keys)
		l[i] = api.Node{}
	}
	_ = append(l, api.Node{})
	wantNodes(t, v, want...)
	v.M[0].V.L[1].M[0].V.B = true
	wantNodes(t, v, `"" "allOf"=[{"items":true},{"not":true}] "0":1 "1":3 "anyOf"=[true] "0":5`, `"/allOf/0" "items"=true "":2`, `"/allOf/0/items" true 0`,
		`"/allOf/1" "not"=true "":4`, `"/allOf/1/not" true 0`, `"/anyOf/0" true 0`)
	v.M[0].Key = "all"
	wantError(t, v, "/all", api.ErrKeyword)
}

// P1: long lists, long names, and values down to the document's bound of levels, end soon.
func TestDeepAndLong(t *testing.T) {
	const n = 1 << 18
	wantError(t, object(pair("anyOf", many(n, object()))), "/anyOf/199", api.ErrLarge)
	wantError(t, object(pair("anyOf", array(append(many(n, object()).L, api.Value{})...))), "/anyOf", api.ErrShape)
	members := object()
	for i := range n {
		members.M = append(members.M, pair(strconv.Itoa(n+i), truth(true)))
	}
	wantError(t, object(pair("$defs", members)), "/$defs/"+strconv.Itoa(n+199), api.ErrLarge)
	wantError(t, members, "/"+strconv.Itoa(n), api.ErrKeyword)
	deep, inside := truth(true), array()
	for k := range 1<<16 - 3 {
		deep = object(pair([]string{"not", "items"}[k%2], deep))
		inside = array(inside)
	}
	first := deep.M[0].Key
	second := map[string]string{"not": "items", "items": "not"}[first]
	wantError(t, deep, strings.Repeat("/"+first+"/"+second, api.MaxNodes/2), api.ErrLarge)
	wantError(t, inside, "", api.ErrSchema)
	wantError(t, object(pair("not", object(pair("x", inside)))), "/not/x", api.ErrKeyword)
	if l, err := Compile(object(pair("const", inside), pair("enum", array(deep)))); err != nil || len(l) != 1 || len(l[0].Keys) != 2 || l[0].Keys[0].V.L[0].Kind != api.Array {
		t.Error(len(l), err)
	}
	long := strings.Repeat("~/a", n)
	path := strings.Repeat("~0~1a", n)
	wantError(t, object(pair(long, truth(true))), "/"+path, api.ErrKeyword)
	wantError(t, object(pair("properties", object(pair(long, object(pair(long, truth(true))))))), "/properties/"+path+"/"+path, api.ErrKeyword)
	if l, err := Compile(object(pair("properties", object(pair(long, truth(true)))))); err != nil || len(l) != 2 || l[1].Path != "/properties/"+path || l[0].Keys[0].Kids[0].Key != long {
		t.Error(len(l), err)
	}
}

// R2: what else is asked at the same time doesn't matter.
func TestAtOnce(t *testing.T) {
	r := rand.New(rand.NewSource(3))
	var l []api.Value
	for k := range 60 {
		m := maker{r: r, wide: 4, amiss: []int{0, 20}[k%2], left: 250}
		l = append(l, m.schema(4))
	}
	var askers sync.WaitGroup
	for range 8 {
		askers.Go(func() {
			for _, v := range l {
				wantOracle(t, v)
			}
		})
	}
	askers.Wait()
}

// P11.1, P11.3: any value has nodes that stand in it, or an error that does.
func FuzzCompile(f *testing.F) {
	f.Add(`{"not":{"anyOf":[true,{"properties":{"a/b":{}}}]}}`)
	f.Add(`{"allOf":[{"x":1}],"type":"object"}`)
	f.Add(`{"enum":[1],"required":["a"],"items":{"minItems":1e2}}`)
	f.Fuzz(func(t *testing.T, s string) {
		v, err := parse.Parse(s)
		if err != nil {
			return
		}
		l, err := Compile(v)
		if err != nil {
			wantErrorThere(t, v, err)
			return
		}
		wantNumbered(t, v, l)
	})
}

// wantErrorThere asks that an error's pointer leads to what is amiss: to a value in v.
func wantErrorThere(t *testing.T, v api.Value, err error) {
	t.Helper()
	spell, ok := err.(*api.Spell)
	if !ok {
		t.Fatalf("Compile(%.300s): %v", show.Show(v), err)
	}
	names, err := ptr.Parse(spell.Path)
	if err != nil {
		t.Fatalf("Compile(%.300s): %v", show.Show(v), spell)
	}
	if _, err := ptr.Get(v, names); err != nil {
		t.Errorf("Compile(%.300s): %v", show.Show(v), spell)
	}
}
