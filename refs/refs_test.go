package refs

import (
	"encoding/json"
	"errors"
	"fmt"
	"math/rand"
	"reflect"
	"slices"
	"strconv"
	"strings"
	"sync"
	"testing"

	"doublet/api"
	"doublet/parse"
	"doublet/ptr"
	"doublet/schema"
	"doublet/show"
)

// of is the nodes of a schema's text, as layer 11 tells them.
func of(t *testing.T, s string) []api.Node {
	t.Helper()
	v, err := parse.Parse(s)
	if err != nil {
		t.Fatalf("%.300q is no value: %v", s, err)
	}
	return compiled(t, v)
}

// compiled is a schema's nodes, as layer 11 tells them.
func compiled(t *testing.T, v api.Value) []api.Node {
	t.Helper()
	l, err := schema.Compile(v)
	if err != nil {
		t.Fatalf("%.300s is no schema: %v", show.Show(v), err)
	}
	return l
}

// clone shares no list of nodes, keywords or kids with l.
func clone(l []api.Node) []api.Node {
	l = slices.Clone(l)
	for i := range l {
		l[i].Keys = slices.Clone(l[i].Keys)
		for k := range l[i].Keys {
			l[i].Keys[k].Kids = slices.Clone(l[i].Keys[k].Kids)
		}
	}
	return l
}

// wantLinked asks for the nodes as they were, but for each $ref's one kid: of the nodes that
// have one, in their order, those of the Paths that are told: P12.1, P12.3.
func wantLinked(t *testing.T, s string, paths ...string) {
	t.Helper()
	wantNodesLinked(t, s, of(t, s), paths)
}

// wantNodesLinked is wantLinked, of a schema that is told as nodes.
func wantNodesLinked(t *testing.T, s string, l []api.Node, paths []string) {
	t.Helper()
	want, left := clone(l), paths
	for i := range want {
		for k := range want[i].Keys {
			if want[i].Keys[k].Name != "$ref" {
				continue
			}
			if len(left) == 0 {
				t.Fatalf("%.300s: more references than %q", s, paths)
			}
			at := slices.IndexFunc(l, func(n api.Node) bool { return n.Path == left[0] })
			want[i].Keys[k].Kids, left = []api.Kid{{Key: "", Node: at}}, left[1:]
		}
	}
	if len(left) > 0 {
		t.Fatalf("%.300s: fewer references than %q", s, paths)
	}
	got, err := Link(l)
	if err != nil || !sameNodes(got, want) {
		t.Errorf("Link(%.300s) =\n%.3000v, %v\nwant\n%.3000v", s, got, err, want)
		return
	}
	wantNoWayTwice(t, s, got)
}

// sameNodes is whether two lists are the same, of no elements or nil being one.
func sameNodes(a, b []api.Node) bool {
	return slices.EqualFunc(a, b, func(a, b api.Node) bool {
		return a.Path == b.Path && a.All == b.All && a.Pass == b.Pass && slices.EqualFunc(a.Keys, b.Keys, func(a, b api.Key) bool {
			return a.Name == b.Name && reflect.DeepEqual(a.V, b.V) && slices.Equal(a.Kids, b.Kids)
		})
	})
}

// leads are the keywords that lead in place.
func leads() []string { return []string{"$ref", "allOf", "anyOf", "oneOf", "not"} }

// wantNoWayTwice asks that no way in place comes to a node twice: P12.3. It ends nodes all of whose
// kids in place are ended; a node on a way that comes back is never among them.
func wantNoWayTwice(t *testing.T, s string, l []api.Node) {
	t.Helper()
	ended := map[int]bool{}
	for more := true; more; {
		more = false
		for i, n := range l {
			if ended[i] {
				continue
			}
			open := false
			for _, key := range n.Keys {
				for _, kid := range key.Kids {
					open = open || slices.Contains(leads(), key.Name) && !ended[kid.Node]
				}
			}
			if !open {
				ended[i], more = true, true
			}
		}
	}
	if len(ended) != len(l) {
		t.Errorf("Link(%.300s): of %d nodes %d come to an end", s, len(l), len(ended))
	}
}

// wantError asks for a Spell itself, and for no nodes beside it: P12.1, R3.
func wantError(t *testing.T, s, path string, code api.Code) {
	t.Helper()
	wantNodesError(t, s, of(t, s), path, code)
}

// wantNodesError is wantError, of a schema that is told as nodes.
func wantNodesError(t *testing.T, s string, l []api.Node, path string, code api.Code) {
	t.Helper()
	l, err := Link(l)
	if spell, ok := err.(*api.Spell); !ok || spell == nil || spell.Path != path || spell.Code != code || !errors.Is(err, code) || len(l) != 0 {
		t.Errorf("Link(%.300s) = %d nodes, %.300v, want %v at %.300q", s, len(l), err, code, path)
	}
}

// P12.1: schemas without references are told as they are.
func TestNoReferences(t *testing.T) {
	for _, s := range []string{`true`, `false`, `{}`, `{"type":"null"}`, `{"not":{"not":true}}`, `{"$defs":{}}`, `{"properties":{}}`,
		`{"$defs":{"a":true,"b":{"items":false}},"allOf":[{},true,{"minimum":1}],"properties":{"x":{"anyOf":[true]}}}`,
		// $ref is a keyword only where it stands as one.
		`{"properties":{"$ref":true}}`, `{"$defs":{"$ref":{"not":{}}}}`, `{"const":{"$ref":"x"},"enum":[{"$ref":"#"}],"required":["$ref"]}`} {
		wantLinked(t, s)
	}
	for _, l := range [][]api.Node{nil, {}} {
		if got, err := Link(l); err != nil || len(got) != 0 {
			t.Errorf("Link(%#v) = %v, %v", l, got, err)
		}
	}
}

// P12.1: references, each to the node of its Path.
func TestReferences(t *testing.T) {
	// To the first node, from below it.
	for _, s := range []string{`{"items":{"$ref":"#"}}`, `{"additionalProperties":{"$ref":"#"}}`, `{"properties":{"a":{"$ref":"#"}}}`, `{"$defs":{"a":{"$ref":"#"}}}`} {
		wantLinked(t, s, "")
	}
	// To a node behind, ahead of, and within the one that has it; to what has one itself.
	wantLinked(t, `{"$ref":"#/$defs/a","$defs":{"a":true}}`, "/$defs/a")
	wantLinked(t, `{"$ref":"#/items","items":{"$ref":"#/not"},"not":false}`, "/items", "/not")
	wantLinked(t, `{"$ref":"#/items","items":true}`, "/items")
	wantLinked(t, `{"$defs":{"a":{"$ref":"#/$defs/b"},"b":{"$ref":"#/$defs/c"},"c":{}}}`, "/$defs/b", "/$defs/c")
	wantLinked(t, `{"$defs":{"a":{},"b":{"$ref":"#/$defs/a"},"c":{"$ref":"#/$defs/b"}}}`, "/$defs/a", "/$defs/b")
	wantLinked(t, `{"allOf":[{"$ref":"#/allOf/1"},true,{"$ref":"#/allOf/0"}]}`, "/allOf/1", "/allOf/0")
	// To each keyword's kids.
	for _, path := range []string{"/items", "/additionalProperties", "/not", "/allOf/0", "/allOf/1", "/anyOf/0", "/oneOf/2", "/properties/x", "/$defs/x", "/$defs/x/not"} {
		wantLinked(t, `{"$ref":"#`+path+`","items":{},"additionalProperties":{},"not":{},"allOf":[{},true],"anyOf":[{}],"oneOf":[true,{},false],"properties":{"x":{}},"$defs":{"x":{"not":{}}}}`, path)
	}
	// By the keys as pointers have them.
	for key, name := range map[string]string{"": "", "a/b": "a~1b", "~": "~0", "~1": "~01", "~01": "~001", "/": "~1", "#": "#", "%61": "%61", "a b": "a b", "é": "é", "0": "0", "$ref": "$ref"} {
		wantLinked(t, `{"$defs":{"`+key+`":{"items":{"$ref":"#/$defs/`+name+`"}}}}`, "/$defs/"+name)
		wantLinked(t, `{"properties":{"`+key+`":{"$ref":"#/properties/`+name+`/items","items":true}}}`, "/properties/"+name+"/items")
	}
	// Beside other keywords, which stay.
	wantLinked(t, `{"type":"object","$ref":"#/properties/a","properties":{"a":{"minimum":1,"enum":[{"$ref":"x"}]},"b":{"$ref":"#","const":1}}}`, "/properties/a", "")
	// More than one to one node.
	wantLinked(t, `{"$defs":{"a":{}},"allOf":[{"$ref":"#/$defs/a"},{"$ref":"#/$defs/a"}],"items":{"$ref":"#/$defs/a"}}`, "/$defs/a", "/$defs/a", "/$defs/a")
	// A text's own escapes are no part of it.
	wantLinked(t, `{"$ref":"\u0023\/$defs\/\u0061","$defs":{"a":true}}`, "/$defs/a")
}

// P12.1: what is no reference.
func TestNoReference(t *testing.T) {
	with := func(ref string) string {
		return `{"$defs":{"a":{"not":{}},"":true,"x/y":{},"~":{},"%61":{}},"allOf":[{},{}],"const":{"a":true},"enum":[{"not":{}}],"items":{},"properties":{"b":{}},"$ref":"` + ref + `"}`
	}
	for _, ref := range []string{
		// Without a # ahead, or with more than that.
		"", "a", "/", "/items", "/$defs/a", "items", "$defs/a", "##", "##/items", "#items", "#$defs/a", " #", " #/items", "x#/items", "/#/items", "schema.json#/items", "http://a/b#/items", "#/items#", "#/items ", "# ",
		// To what is there, but is no schema.
		"#/", "#/$defs", "#/$defs/", "#/allOf", "#/allOf/", "#/const", "#/const/a", "#/enum/0", "#/enum/0/not", "#/properties", "#/$ref",
		// To nothing.
		"#/x", "#/not", "#/items/", "#/items/0", "#/items/not", "#/properties/a", "#/$defs/b", "#/$defs/a/", "#/$defs/a/not/", "#/$defs/a/not/not", "#/allOf/2", "#/allOf/-", "#/allOf/-1", "#/Items", "#//",
		// To something by another text than its Path.
		"#/allOf/00", "#/allOf/01", "#/allOf/+1", "#/allOf/1e0", "#/allOf/1.0", "#/%69tems", "#/$defs/%61", "#/$defs/%2561", "#/$defs/x/y", "#/$defs/x~01y", "#/$defs/x%2Fy", "#/$defs/~", "#/$defs/~00", "#/$defs/~2", "#%2Fitems", "%23/items",
	} {
		// These two are among the Paths.
		if ref != "#/$defs/" && ref != "#/$defs/%61" {
			wantError(t, with(ref), "/$ref", api.ErrRef)
		}
	}
	wantLinked(t, with("#/$defs/"), "/$defs/")
	wantLinked(t, with("#/$defs/%61"), "/$defs/%61")
	wantError(t, `{"$ref":"#a"}`, "/$ref", api.ErrRef)
	wantError(t, `{"$defs":{"a":true},"items":{"$ref":"#/$defs"}}`, "/items/$ref", api.ErrRef)
	wantError(t, `{"properties":{"$ref":{"$ref":"#/$ref"}}}`, "/properties/$ref/$ref", api.ErrRef)
	wantError(t, `{"$defs":{"a/b~c":{"$ref":"#/$defs/a/b~c"}}}`, "/$defs/a~1b~0c/$ref", api.ErrRef)
}

// P12.1: of several that are no references, the first node's.
func TestFirstNoReference(t *testing.T) {
	wantError(t, `{"$ref":"x","$defs":{"a":{"$ref":"x"}}}`, "/$ref", api.ErrRef)
	wantError(t, `{"$ref":"#/items","$defs":{"a":{"$ref":"x"}},"items":{"$ref":"x"}}`, "/$defs/a/$ref", api.ErrRef)
	wantError(t, `{"properties":{"b":{"$ref":"x"},"a":{"not":{"$ref":"x"}}}}`, "/properties/a/not/$ref", api.ErrRef)
	wantError(t, `{"properties":{"b":{"$ref":"x"},"a":{"not":{"items":true}}}}`, "/properties/b/$ref", api.ErrRef)
	wantError(t, `{"oneOf":[true,{"$ref":"#"},{"items":{"$ref":"x"}},{"$ref":"x"}]}`, "/oneOf/2/items/$ref", api.ErrRef)
	// A node's own one comes ahead of those within it, by keywords ahead of $ref, too.
	wantError(t, `{"$defs":{"a":{"$ref":"x"}},"$ref":"x"}`, "/$ref", api.ErrRef)
	// Ahead of all that leads back, wherever it stands.
	wantError(t, `{"$ref":"#","not":{"$ref":"x"}}`, "/not/$ref", api.ErrRef)
	wantError(t, `{"$defs":{"a":{"$ref":"#/$defs/a"}},"properties":{"z":{"$ref":"#/$defs/b"}}}`, "/properties/z/$ref", api.ErrRef)
	wantError(t, `{"$ref":"x","$defs":{"a":{"$ref":"#/$defs/a"}}}`, "/$ref", api.ErrRef)
}

// P12.1: what leads in place comes back.
func TestCycle(t *testing.T) {
	wantError(t, `{"$ref":"#"}`, "", api.ErrCycle)
	for _, in := range [][2]string{{`"not":`, ``}, {`"allOf":[`, `]`}, {`"anyOf":[true,`, `]`}, {`"oneOf":[{},false,`, `]`}} {
		wrap := func(s string) string { return `{` + in[0] + s + in[1] + `}` }
		wantError(t, wrap(`{"$ref":"#"}`), "", api.ErrCycle)
		wantError(t, wrap(wrap(`{"$ref":"#"}`)), "", api.ErrCycle)
		wantError(t, `{"$defs":{"a":`+wrap(`{"$ref":"#/$defs/a"}`)+`}}`, "/$defs/a", api.ErrCycle)
		// Not from the node that only leads there.
		wantError(t, `{"$defs":{"a":`+wrap(`{"$ref":"#/$defs/a"}`)+`},"$ref":"#/$defs/a"}`, "/$defs/a", api.ErrCycle)
		wantError(t, `{`+in[0]+`{"$ref":"#/$defs/a"}`+in[1]+`,"$defs":{"a":{"$ref":"#/$defs/a"}}}`, "/$defs/a", api.ErrCycle)
		// To a node that has a way of its own that ends, too.
		wantError(t, `{"$defs":{"a":`+wrap(`{"$ref":"#/$defs/b"}`)+`,"b":{"$ref":"#/$defs/a","not":true}}}`, "/$defs/a", api.ErrCycle)
	}
	// Of several the first node's, and of each that of the first node on it.
	wantError(t, `{"$defs":{"b":{"$ref":"#/$defs/a"},"a":{"$ref":"#/$defs/b"}}}`, "/$defs/a", api.ErrCycle)
	wantError(t, `{"$defs":{"a":{"$ref":"#/$defs/b"},"b":{"$ref":"#/$defs/c"},"c":{"$ref":"#/$defs/b"}}}`, "/$defs/b", api.ErrCycle)
	wantError(t, `{"$defs":{"a":{"$ref":"#/$defs/a"},"b":{"$ref":"#/$defs/b"}}}`, "/$defs/a", api.ErrCycle)
	wantError(t, `{"$ref":"#/$defs/z","$defs":{"a":{"$ref":"#/$defs/a"},"z":{"$ref":"#"}}}`, "", api.ErrCycle)
	wantError(t, `{"allOf":[{"$ref":"#/allOf/2"},true,{"$ref":"#/allOf/0"}]}`, "/allOf/0", api.ErrCycle)
	wantError(t, `{"allOf":[{"$ref":"#/allOf/2"},true,{"$ref":"#/allOf/2"}]}`, "/allOf/2", api.ErrCycle)
	// From a node within, that its own schema doesn't lead to in place.
	wantError(t, `{"items":{"$ref":"#/items"}}`, "/items", api.ErrCycle)
	wantError(t, `{"properties":{"a/b":{"not":{"$ref":"#/properties/a~1b"}}}}`, "/properties/a~1b", api.ErrCycle)
	wantError(t, `{"additionalProperties":{"items":{"anyOf":[{"$ref":"#/additionalProperties/items"}]}}}`, "/additionalProperties/items", api.ErrCycle)
	// Both ways on from one node are gone, $ref's and the other's.
	wantError(t, `{"$ref":"#/$defs/a","not":{"$ref":"#"},"$defs":{"a":true}}`, "", api.ErrCycle)
	wantError(t, `{"$ref":"#/$defs/a","not":true,"$defs":{"a":{"$ref":"#"}}}`, "", api.ErrCycle)
	wantError(t, `{"allOf":[true,{"$ref":"#"},true],"anyOf":[true]}`, "", api.ErrCycle)
}

// P12.1: what comes back, but not in place, is no error.
func TestNoCycle(t *testing.T) {
	for _, name := range []string{"items", "additionalProperties"} {
		wantLinked(t, `{"`+name+`":{"$ref":"#"}}`, "")
		wantLinked(t, `{"$ref":"#/$defs/a","$defs":{"a":{"`+name+`":{"$ref":"#"}}}}`, "/$defs/a", "")
		wantLinked(t, `{"allOf":[{"not":{"`+name+`":{"allOf":[{"$ref":"#"}]}}}]}`, "")
		wantLinked(t, `{"`+name+`":{"not":{"`+name+`":{"$ref":"#/`+name+`"}}}}`, "/"+name)
	}
	for _, name := range []string{"properties", "$defs"} {
		wantLinked(t, `{"`+name+`":{"a":{"$ref":"#"}}}`, "")
		wantLinked(t, `{"$ref":"#/`+name+`/a","`+name+`":{"a":{"`+name+`":{"b":{"$ref":"#"}}}}}`, "/"+name+"/a", "")
		wantLinked(t, `{"`+name+`":{"a":{"oneOf":[{"`+name+`":{"b":{"$ref":"#/`+name+`/a"}}}]}}}`, "/"+name+"/a")
	}
	// Ways that meet, but come to no node twice each.
	wantLinked(t, `{"$defs":{"a":{"$ref":"#/$defs/b"},"b":true},"allOf":[{"$ref":"#/$defs/a"},{"$ref":"#/$defs/a"}],"not":{"$ref":"#/$defs/b"}}`,
		"/$defs/b", "/$defs/a", "/$defs/a", "/$defs/b")
	wantLinked(t, `{"$ref":"#/not","not":{"anyOf":[{},{}]}}`, "/not")
	wantLinked(t, `{"$ref":"#/not/anyOf/1","not":{"$ref":"#/not/anyOf/0","anyOf":[{"$ref":"#/not/anyOf/1"},{}]}}`, "/not/anyOf/1", "/not/anyOf/0", "/not/anyOf/1")
	// Into what is within a node, or to its own schema's other kid.
	wantLinked(t, `{"allOf":[{"$ref":"#/$defs/a/not"}],"$defs":{"a":{"not":{}}}}`, "/$defs/a/not")
}

// chainOf is a schema of n nodes: the first, and $defs that lead each to the one behind it, the last to last.
func chainOf(n int, last string) string {
	var b strings.Builder
	b.WriteString(`{"$defs":{`)
	for i := 1000; i < 1000+n-2; i++ {
		fmt.Fprintf(&b, `"%d":{"$ref":"#/$defs/%d"},`, i, i+1)
	}
	fmt.Fprintf(&b, `"%d":%s}}`, 1000+n-2, last)
	return b.String()
}

// P12.1: ways of as many nodes as there may be, there and back.
func TestMaxNodes(t *testing.T) {
	const n = api.MaxNodes
	last := strconv.Itoa(1000 + n - 2)
	var paths []string
	for i := 1001; i <= 1000+n-2; i++ {
		paths = append(paths, "/$defs/"+strconv.Itoa(i))
	}
	wantLinked(t, chainOf(n, `true`), paths...)
	wantLinked(t, chainOf(n, `{"$ref":"#"}`), append(paths, "")...)
	wantError(t, chainOf(n, `{"$ref":"#/$defs/1000"}`), "/$defs/1000", api.ErrCycle)
	wantError(t, chainOf(n, `{"$ref":"#/$defs/1100"}`), "/$defs/1100", api.ErrCycle)
	wantError(t, chainOf(n, `{"$ref":"#/$defs/`+last+`"}`), "/$defs/"+last, api.ErrCycle)
	wantError(t, chainOf(n, `{"$ref":"#/$defs/999"}`), "/$defs/"+last+"/$ref", api.ErrRef)
}

// nested is a schema of n nodes, each but the first in the one ahead of it: by not, and the second by
// name; in the last is a $ref.
func nested(n int, name, ref string) api.Value {
	v := api.Value{Kind: api.Object, M: []api.Member{{Key: "$ref", V: api.Value{Kind: api.String, S: ref}}}}
	for i := range n - 1 {
		key := "not"
		if i == n-2 {
			key = name
		}
		v = api.Value{Kind: api.Object, M: []api.Member{{Key: key, V: v}}}
	}
	return v
}

// P12.1: nodes within one another, as many as there may be.
func TestNested(t *testing.T) {
	const n = api.MaxNodes
	half := "/items" + strings.Repeat("/not", n/2)
	for _, c := range []struct {
		name, to, path string
		code           api.Code
	}{
		{"not", "", "", api.ErrCycle}, {"not", "/not", "/not", api.ErrCycle}, {"items", "/items", "/items", api.ErrCycle}, {"items", half, half, api.ErrCycle},
		{"items", "/items" + strings.Repeat("/not", n-2), "/items" + strings.Repeat("/not", n-2), api.ErrCycle},
		{"items", "/items" + strings.Repeat("/not", n-1), "/items" + strings.Repeat("/not", n-2) + "/$ref", api.ErrRef},
		{"items", "", "", 0}, {"properties", "", "", 0},
	} {
		v := nested(n, c.name, "#"+c.to)
		if c.name == "properties" {
			v.M[0].V = api.Value{Kind: api.Object, M: []api.Member{{Key: "a", V: v.M[0].V}}}
		}
		l := compiled(t, v)
		if len(l) != n {
			t.Fatal(len(l))
		}
		if c.code != 0 {
			wantNodesError(t, show.Show(v), l, c.path, c.code)
		} else {
			wantNodesLinked(t, show.Show(v), l, []string{c.to})
		}
	}
}

// P1: it ends soon, however many ways there are: all twice, over each of many levels.
func TestManyWays(t *testing.T) {
	var b strings.Builder
	b.WriteString(`{"$defs":{"1000":true`)
	for i := 1001; i < 1066; i++ {
		fmt.Fprintf(&b, `,"%d":{"allOf":[{"$ref":"#/$defs/%d"},{"$ref":"#/$defs/%d"}]}`, i, i-1, i-1)
	}
	b.WriteString(`}}`)
	var paths []string
	for i := 1000; i < 1065; i++ {
		paths = append(paths, "/$defs/"+strconv.Itoa(i), "/$defs/"+strconv.Itoa(i))
	}
	wantLinked(t, b.String(), paths...)
}

// spot is a schema within another one, as the oracle reads it: its Path, its $ref (if it has one), and
// the Paths of those to which it leads in place.
type spot struct {
	path, ref string
	hasRef    bool
	leads     []string
}

// spotsOf are a schema's own and all within it, of the text's value as the library reads it.
func spotsOf(x any, path string) []spot {
	m, _ := x.(map[string]any)
	here := spot{path: path}
	here.ref, here.hasRef = m["$ref"].(string)
	var names []string
	for name := range m {
		names = append(names, name)
	}
	slices.Sort(names)
	var within []spot
	for _, name := range names {
		kids := map[string]any{}
		switch name {
		case "items", "additionalProperties", "not":
			kids[""] = m[name]
		case "properties", "$defs":
			for key, kid := range m[name].(map[string]any) {
				kids["/"+strings.NewReplacer("~", "~0", "/", "~1").Replace(key)] = kid
			}
		case "allOf", "anyOf", "oneOf":
			for i, kid := range m[name].([]any) {
				kids[fmt.Sprintf("/%d", i)] = kid
			}
		}
		for _, key := range inOrder(m[name], kids) {
			if slices.Contains(leads(), name) {
				here.leads = append(here.leads, path+"/"+name+key)
			}
			within = append(within, spotsOf(kids[key], path+"/"+name+key)...)
		}
	}
	return append([]spot{here}, within...)
}

// inOrder are the ends of kids' Paths: of an array by their places, else as their keys rise.
func inOrder(x any, kids map[string]any) []string {
	var l []string
	for key := range kids {
		l = append(l, key)
	}
	if _, ok := x.([]any); ok {
		slices.SortFunc(l, func(a, b string) int {
			i, _ := strconv.Atoi(a[1:])
			j, _ := strconv.Atoi(b[1:])
			return i - j
		})
		return l
	}
	unescape := strings.NewReplacer("~1", "/", "~0", "~")
	slices.SortFunc(l, func(a, b string) int { return strings.Compare(unescape.Replace(a), unescape.Replace(b)) })
	return l
}

// wantOracle asks for what the oracle has: each reference's node, or the first error; it tells its code.
func wantOracle(t *testing.T, s string) api.Code {
	t.Helper()
	var x any
	if err := json.Unmarshal([]byte(s), &x); err != nil {
		t.Fatal(s, err)
	}
	l := spotsOf(x, "")
	var paths, known []string
	for _, e := range l {
		known = append(known, e.path)
	}
	for i, e := range l {
		if !e.hasRef {
			continue
		}
		if e.ref == "" || e.ref[0] != '#' || !slices.Contains(known, e.ref[1:]) {
			wantError(t, s, e.path+"/$ref", api.ErrRef)
			return api.ErrRef
		}
		paths = append(paths, e.ref[1:])
		l[i].leads = append(l[i].leads, e.ref[1:])
	}
	if path, ok := firstBack(l); ok {
		wantError(t, s, path, api.ErrCycle)
		return api.ErrCycle
	}
	wantLinked(t, s, paths...)
	return 0
}

// firstBack is the Path of the first schema that can be come to from itself, of all pairs of which
// one can be come to from the other, in as many steps as it may be.
func firstBack(l []spot) (string, bool) {
	to := map[[2]string]bool{}
	for _, e := range l {
		for _, lead := range e.leads {
			to[[2]string{e.path, lead}] = true
		}
	}
	for _, by := range l {
		for _, from := range l {
			if !to[[2]string{from.path, by.path}] {
				continue
			}
			for _, end := range l {
				if to[[2]string{by.path, end.path}] {
					to[[2]string{from.path, end.path}] = true
				}
			}
		}
	}
	for _, e := range l {
		if to[[2]string{e.path, e.path}] {
			return e.path, true
		}
	}
	return "", false
}

// maker makes random schemas; its references are filled in when all Paths are known.
type maker struct {
	r    *rand.Rand
	left int
}

// hole stands where a reference is still to be.
const hole = "?"

// schema is a random schema of so many levels at most.
func (m *maker) schema(levels int) any {
	m.left--
	if levels == 0 || m.left < 0 || m.r.Intn(8) == 0 {
		if m.r.Intn(2) == 0 {
			return map[string]any{"$ref": hole}
		}
		return m.r.Intn(2) == 0
	}
	x := map[string]any{}
	for _, name := range []string{"$defs", "$ref", "additionalProperties", "allOf", "anyOf", "const", "items", "not", "oneOf", "properties", "type"} {
		if m.r.Intn(4) > 0 {
			continue
		}
		switch name {
		case "$ref":
			x[name] = hole
		case "const":
			x[name] = map[string]any{"$ref": "#", "not": true}
		case "type":
			x[name] = "object"
		case "allOf", "anyOf", "oneOf":
			var l []any
			for range 1 + m.r.Intn(3) {
				l = append(l, m.schema(levels-1))
			}
			x[name] = l
		case "$defs", "properties":
			kids := map[string]any{}
			for _, key := range []string{"a", "/", "not", "", "~1", "$ref"}[:1+m.r.Intn(6)] {
				kids[key] = m.schema(levels - 1)
			}
			x[name] = kids
		default:
			x[name] = m.schema(levels - 1)
		}
	}
	return x
}

// fill puts references in where they are still to be; once in amiss times one that is none, if that isn't 0.
func (m *maker) fill(x any, paths []string, amiss int) {
	switch x := x.(type) {
	case map[string]any:
		if x["$ref"] == hole {
			ref := "#" + paths[m.r.Intn(len(paths))]
			if amiss > 0 && m.r.Intn(amiss) == 0 {
				ref = []string{ref[1:], ref + "/", ref + "#", "#" + ref, ref + "/const", ref + "/allOf", "", "#/$defs"}[m.r.Intn(8)]
			}
			x["$ref"] = ref
		}
		var names []string
		for name := range x {
			names = append(names, name)
		}
		slices.Sort(names)
		for _, name := range names {
			m.fill(x[name], paths, amiss)
		}
	case []any:
		for _, kid := range x {
			m.fill(kid, paths, amiss)
		}
	}
}

// text is a random schema's text; far is whether its references lead mostly to nodes from which nothing leads on.
func (m *maker) text(t *testing.T, levels, amiss int, far bool) string {
	t.Helper()
	m.left = 60
	x := m.schema(levels)
	var paths []string
	for _, e := range spotsOf(x, "") {
		if !far || !e.hasRef && len(e.leads) == 0 {
			paths = append(paths, e.path)
		}
	}
	if len(paths) == 0 {
		paths = []string{""}
	}
	m.fill(x, paths, amiss)
	s, err := json.Marshal(x)
	if err != nil {
		t.Fatal(err)
	}
	return string(s)
}

// P12.1, P12.3: many schemas, with references of all kinds.
func TestRandom(t *testing.T) {
	m := maker{r: rand.New(rand.NewSource(1))}
	met := map[api.Code]int{}
	const all = 3000
	for k := range all {
		met[wantOracle(t, m.text(t, 1+k%5, []int{0, 0, 5, 40}[k%4], k%3 == 0))]++
	}
	for _, code := range []api.Code{0, api.ErrRef, api.ErrCycle} {
		if met[code] < all/10 {
			t.Error("too few of one kind:", met)
		}
	}
}

// P12.1, P12.3: all choices of what three schemas lead to.
func TestAllSmall(t *testing.T) {
	parts := []string{`true`, `{}`}
	for _, ref := range []string{"#", "#/$defs/a", "#/$defs/b", "#/$defs/a/not", "#/$defs/b/items", "#/x", ""} {
		r := `{"$ref":"` + ref + `"}`
		parts = append(parts, r, `{"not":`+r+`}`, `{"items":`+r+`}`, `{"anyOf":[true,`+r+`]}`)
	}
	for _, a := range parts {
		wantOracle(t, a)
		for _, b := range parts {
			wantOracle(t, `{"$defs":{"a":`+a+`,"b":`+b+`}}`)
			wantOracle(t, `{"$ref":"#/$defs/a","$defs":{"a":`+a+`,"b":`+b+`}}`)
			wantOracle(t, `{"$ref":"#/items","items":`+a+`,"not":`+b+`,"$defs":{"a":{"not":{}},"b":{"items":true}}}`)
			for _, c := range parts {
				wantOracle(t, `{"$defs":{"a":`+a+`,"b":`+b+`},"oneOf":[`+c+`]}`)
			}
		}
	}
}

// P12.2: what is handed in isn't changed, nor what stands behind its lists.
func TestNothingChanged(t *testing.T) {
	m := maker{r: rand.New(rand.NewSource(2))}
	for k := range 1000 {
		s := m.text(t, 1+k%5, []int{0, 20}[k%2], k%3 == 0)
		l := of(t, s)
		room := append(l, api.Node{Path: "behind"})
		l = room[:len(l)]
		for i := range l {
			l[i].Keys = append(l[i].Keys, api.Key{Name: "behind"})[:len(l[i].Keys)]
			for j := range l[i].Keys {
				key := &l[i].Keys[j]
				key.Kids = append(key.Kids, api.Kid{Key: "behind"})[:len(key.Kids)]
			}
		}
		want := clone(l)
		values := valuesOf(l)
		Link(l)
		if !sameNodes(l, want) || !slices.Equal(valuesOf(l), values) || room[len(l)].Path != "behind" {
			t.Fatalf("changed: %s", s)
		}
		for _, n := range l {
			if n.Keys[:len(n.Keys)+1][len(n.Keys)].Name != "behind" {
				t.Fatalf("changed behind %q: %s", n.Path, s)
			}
			for _, key := range n.Keys {
				if key.Kids[:len(key.Kids)+1][len(key.Kids)].Key != "behind" {
					t.Fatalf("changed behind %s of %q: %s", key.Name, n.Path, s)
				}
			}
		}
	}
}

// valuesOf are the texts of all keywords' values.
func valuesOf(l []api.Node) []string {
	var texts []string
	for _, n := range l {
		for _, key := range n.Keys {
			texts = append(texts, show.Show(key.V))
		}
	}
	return texts
}

// P12.2, LANGUAGE 7: nothing is kept from call to call, and no two lists of one answer are one.
func TestTellingAnew(t *testing.T) {
	const s = `{"$defs":{"a":{"$ref":"#/$defs/b"},"b":{"items":{"$ref":"#/$defs/b"}}},"allOf":[{"$ref":"#/$defs/b"},{"$ref":"#/$defs/b"}]}`
	first, err := Link(of(t, s))
	if err != nil {
		t.Fatal(err)
	}
	want := clone(first)
	for _, n := range first {
		for _, key := range n.Keys {
			_ = append(key.Kids, api.Kid{Key: "more", Node: 9})
		}
		_ = append(n.Keys, api.Key{Name: "more"})
	}
	if !sameNodes(first, want) {
		t.Errorf("lists in one another: %v", first)
	}
	for i := range first {
		for k := range first[i].Keys {
			if first[i].Keys[k].Name == "$ref" {
				before := clone(first)
				first[i].Keys[k].Kids[0].Node = 99
				before[i].Keys[k].Kids[0].Node = 99
				if !sameNodes(first, before) {
					t.Errorf("one list twice: of %q", first[i].Path)
				}
			}
		}
	}
	clear(first)
	wantLinked(t, s, "/$defs/b", "/$defs/b", "/$defs/b", "/$defs/b")
	// Other nodes' Paths aren't known.
	wantError(t, `{"$ref":"#/$defs/b"}`, "/$ref", api.ErrRef)
	if again, err := Link(of(t, s)); err != nil || !sameNodes(again, want) {
		t.Errorf("Link(%s) = %v, %v, want %v", s, again, err, want)
	}
}

// P12.1: long references, and long Paths.
func TestLong(t *testing.T) {
	key := strings.Repeat("~/a", 2000)
	path := "/$defs/" + strings.Repeat("~0~1a", 2000)
	wantLinked(t, `{"$defs":{"`+key+`":{}},"$ref":"#`+path+`"}`, path)
	wantError(t, `{"$defs":{"`+key+`":{}},"$ref":"#`+path[:len(path)-1]+`"}`, "/$ref", api.ErrRef)
	wantError(t, `{"$defs":{"`+key+`":{"$ref":"#x"}}}`, path+"/$ref", api.ErrRef)
	wantError(t, `{"$defs":{"`+key[:3000]+`":{"$ref":"#`+path[:7+5000]+`"}}}`, path[:7+5000], api.ErrCycle)
	wantError(t, `{"$ref":"`+strings.Repeat("#", 10000)+`"}`, "/$ref", api.ErrRef)
}

// R2: what else is asked at the same time doesn't matter.
func TestAtOnce(t *testing.T) {
	m := maker{r: rand.New(rand.NewSource(3))}
	var l []string
	for k := range 60 {
		l = append(l, m.text(t, 4, []int{0, 20}[k%2], k%3 == 0))
	}
	var askers sync.WaitGroup
	for range 8 {
		askers.Go(func() {
			for _, s := range l {
				wantOracle(t, s)
			}
		})
	}
	shared := of(t, `{"$ref":"#/items","items":{"$ref":"#/not"},"not":{}}`)
	for range 8 {
		askers.Go(func() {
			for range 100 {
				if got, err := Link(shared); err != nil || len(got) != 3 || got[0].Keys[0].Kids[0].Node != 1 {
					t.Error(got, err)
				}
			}
		})
	}
	askers.Wait()
}

// P12.1, P12.3: of any schema's nodes each $ref has the node of its Path, or an error's pointer leads to what is amiss.
func FuzzLink(f *testing.F) {
	f.Add(`{"$ref":"#/$defs/a~1b","$defs":{"a/b":{"items":{"$ref":"#"}}}}`)
	f.Add(`{"allOf":[{"not":{"$ref":"#"}}]}`)
	f.Add(`{"properties":{"a":{"$ref":"#/x"}}}`)
	f.Fuzz(func(t *testing.T, s string) {
		v, err := parse.Parse(s)
		if err != nil {
			return
		}
		l, err := schema.Compile(v)
		if err != nil {
			return
		}
		got, err := Link(l)
		if err != nil {
			wantErrorThere(t, v, err)
			return
		}
		for _, n := range got {
			for _, key := range n.Keys {
				if key.Name == "$ref" && (len(key.Kids) != 1 || key.Kids[0].Key != "" || key.V.S != "#"+got[key.Kids[0].Node].Path) {
					t.Errorf("Link(%.300s): %q: %v", s, n.Path, key.Kids)
				}
			}
		}
		wantNoWayTwice(t, s, got)
	})
}

// wantErrorThere asks that an error's pointer leads to a $ref, or to a schema, in v.
func wantErrorThere(t *testing.T, v api.Value, err error) {
	t.Helper()
	spell, ok := err.(*api.Spell)
	if !ok {
		t.Fatalf("Link(%.300s): %v", show.Show(v), err)
	}
	names, err := ptr.Parse(spell.Path)
	if err != nil {
		t.Fatalf("Link(%.300s): %v", show.Show(v), spell)
	}
	at, err := ptr.Get(v, names)
	kinds := map[api.Code]int{api.ErrRef: api.String, api.ErrCycle: api.Object}
	if kind, known := kinds[spell.Code]; err != nil || !known || at.Kind != kind {
		t.Errorf("Link(%.300s): %v", show.Show(v), spell)
	}
}
