package patch

import (
	"encoding/json"
	"math/rand"
	"reflect"
	"regexp"
	"slices"
	"strconv"
	"strings"
	"sync"
	"testing"

	"doublet/api"
	"doublet/parse"
	"doublet/show"
	"doublet/value"
)

// told is what an operation comes to: its names as one list, and its value's text.
type told struct {
	op         int
	path, from []string
	v          string
}

// clone shares no list with v.
func clone(v api.Value) api.Value {
	v.L, v.M = slices.Clone(v.L), slices.Clone(v.M)
	for i := range v.L {
		v.L[i] = clone(v.L[i])
	}
	for i := range v.M {
		v.M[i].V = clone(v.M[i].V)
	}
	return v
}

// of is the value of a text.
func of(t *testing.T, s string) api.Value {
	t.Helper()
	v, err := parse.Parse(s)
	if err != nil {
		t.Fatalf("%.200q is no value: %v", s, err)
	}
	return v
}

func array(l ...api.Value) api.Value   { return api.Value{Kind: api.Array, L: l} }
func object(l ...api.Member) api.Value { return api.Value{Kind: api.Object, M: l} }
func quoted(s string) api.Value        { return api.Value{Kind: api.String, S: s} }

// wantOps asks for operations, and for no more in each than it means: P8.1.
func wantOps(t *testing.T, v api.Value, want ...told) {
	t.Helper()
	what := show.Show(v)
	l, err := Read(v)
	if err != nil || len(l) != len(want) {
		t.Errorf("%.300s: %d operations, %v, want %d", what, len(l), err, len(want))
		return
	}
	for i, o := range l {
		w := want[i]
		if o.Op != w.op || !slices.Equal(o.Path, w.path) || !slices.Equal(o.From, w.from) {
			t.Errorf("%.300s: %d is %d, %q, %q, want %+v", what, i, o.Op, o.Path, o.From, w)
		}
		switch {
		case w.v == "" && !reflect.DeepEqual(o.V, api.Value{}):
			t.Errorf("%.300s: %d has a value that means nothing: %+v", what, i, o.V)
		case w.v != "" && (show.Show(o.V) != w.v || !value.May(o.V)):
			t.Errorf("%.300s: %d has %s (%+v), want %s", what, i, show.Show(o.V), o.V, w.v)
		}
	}
}

// wantSpot asks for an error as a Spot itself, and for nothing beside it: P8.1, R3.
func wantSpot(t *testing.T, v api.Value, at int, code api.Code) {
	t.Helper()
	l, err := Read(v)
	spot, ok := err.(*api.Spot)
	if !ok || spot == nil || *spot != (api.Spot{At: at, Code: code}) || len(l) != 0 {
		t.Errorf("%.300s: %+v, %v, want %v at %d", show.Show(v), l, err, code, at)
	}
}

// wantOne asks for one operation, of a text.
func wantOne(t *testing.T, s string, want told) {
	t.Helper()
	wantOps(t, of(t, "["+s+"]"), want)
}

// wantBad asks for a text that is no operation, in each place of a patch, whatever stands behind it.
func wantBad(t *testing.T, s string) {
	t.Helper()
	const good = `{"op":"remove","path":""}`
	wantSpot(t, of(t, "["+s+"]"), 0, api.ErrForm)
	wantSpot(t, of(t, "["+s+","+good+"]"), 0, api.ErrForm)
	wantSpot(t, of(t, "["+good+","+s+"]"), 1, api.ErrForm)
	wantSpot(t, of(t, "["+good+","+good+","+s+",0,"+s+"]"), 2, api.ErrForm)
}

// P8.1: an operation of each kind, with nothing but what it needs.
func TestOperations(t *testing.T) {
	wantOne(t, `{"op":"add","path":"/a/b","value":1}`, told{api.Add, []string{"a", "b"}, nil, `1`})
	wantOne(t, `{"op":"remove","path":"/a/b"}`, told{api.Remove, []string{"a", "b"}, nil, ""})
	wantOne(t, `{"op":"replace","path":"/a/b","value":1}`, told{api.Replace, []string{"a", "b"}, nil, `1`})
	wantOne(t, `{"op":"move","path":"/a/b","from":"/c/d"}`, told{api.Move, []string{"a", "b"}, []string{"c", "d"}, ""})
	wantOne(t, `{"op":"copy","path":"/a/b","from":"/c/d"}`, told{api.Copy, []string{"a", "b"}, []string{"c", "d"}, ""})
	wantOne(t, `{"op":"test","path":"/a/b","value":1}`, told{api.Test, []string{"a", "b"}, nil, `1`})
	wantOne(t, `{"value":[{}],"path":"/x","op":"add"}`, told{api.Add, []string{"x"}, nil, `[{}]`})
	wantOne(t, `{"path":"/x","from":"/y","op":"move"}`, told{api.Move, []string{"x"}, []string{"y"}, ""})
}

// P8.1: none, several in their order, the same one twice.
func TestPatches(t *testing.T) {
	wantOps(t, of(t, `[]`))
	wantOps(t, api.Value{Kind: api.Array, L: []api.Value{}})
	wantOps(t, of(t, `[{"op":"test","path":"/a","value":1},{"op":"remove","path":"/a"},{"op":"add","path":"/b/-","value":2},{"op":"remove","path":"/a"},{"op":"copy","path":"/c","from":"/b"},{"op":"replace","path":"","value":null},{"op":"move","path":"/d","from":"/c"}]`),
		told{api.Test, []string{"a"}, nil, `1`}, told{api.Remove, []string{"a"}, nil, ""}, told{api.Add, []string{"b", "-"}, nil, `2`}, told{api.Remove, []string{"a"}, nil, ""},
		told{api.Copy, []string{"c"}, []string{"b"}, ""}, told{api.Replace, nil, nil, `null`}, told{api.Move, []string{"d"}, []string{"c"}, ""})
}

// P8.1: the patches of RFC 6902, appendix A; of A.13 one of both its ops stands.
func TestRFC(t *testing.T) {
	for s, want := range map[string]told{
		`{"op":"add","path":"/baz","value":"qux"}`:                {api.Add, []string{"baz"}, nil, `"qux"`},
		`{"op":"add","path":"/foo/1","value":"qux"}`:              {api.Add, []string{"foo", "1"}, nil, `"qux"`},
		`{"op":"remove","path":"/baz"}`:                           {api.Remove, []string{"baz"}, nil, ""},
		`{"op":"remove","path":"/foo/1"}`:                         {api.Remove, []string{"foo", "1"}, nil, ""},
		`{"op":"replace","path":"/baz","value":"boo"}`:            {api.Replace, []string{"baz"}, nil, `"boo"`},
		`{"op":"move","from":"/foo/waldo","path":"/qux/thud"}`:    {api.Move, []string{"qux", "thud"}, []string{"foo", "waldo"}, ""},
		`{"op":"move","from":"/foo/1","path":"/foo/3"}`:           {api.Move, []string{"foo", "3"}, []string{"foo", "1"}, ""},
		`{"op":"test","path":"/baz","value":"qux"}`:               {api.Test, []string{"baz"}, nil, `"qux"`},
		`{"op":"test","path":"/foo/1","value":2}`:                 {api.Test, []string{"foo", "1"}, nil, `2`},
		`{"op":"add","path":"/child","value":{"grandchild":{}}}`:  {api.Add, []string{"child"}, nil, `{"grandchild":{}}`},
		`{"op":"add","path":"/baz","value":"qux","xyz":123}`:      {api.Add, []string{"baz"}, nil, `"qux"`},
		`{"op":"add","path":"/baz/bat","value":"qux"}`:            {api.Add, []string{"baz", "bat"}, nil, `"qux"`},
		`{"op":"test","path":"/~01","value":10}`:                  {api.Test, []string{"~1"}, nil, `1e1`},
		`{"op":"test","path":"/~01","value":"10"}`:                {api.Test, []string{"~1"}, nil, `"10"`},
		`{"op":"add","path":"/foo/-","value":["abc","def"]}`:      {api.Add, []string{"foo", "-"}, nil, `["abc","def"]`},
		`{"path":"/a/b/c","op":"test","value":"foo"}`:             {api.Test, []string{"a", "b", "c"}, nil, `"foo"`},
		`{"from":"/a/b/c","path":"/a/b/d","op":"move","x":false}`: {api.Move, []string{"a", "b", "d"}, []string{"a", "b", "c"}, ""},
	} {
		wantOne(t, s, want)
	}
}

// P8.1: pointers with signs of their own, as path, and as from.
func TestPointers(t *testing.T) {
	for s, want := range map[string][]string{
		"": nil, "/": {""}, "//": {"", ""}, "/a~1b": {"a/b"}, "/~0": {"~"}, "/~01/~10": {"~1", "/0"}, "/-": {"-"}, "/01/-1": {"01", "-1"}, "/a//": {"a", "", ""}, "/\u00e9 /\U0001f600": {"\u00e9 ", "\U0001f600"},
		strings.Repeat("/a", 5000): slices.Repeat([]string{"a"}, 5000),
	} {
		q := show.Show(quoted(s))
		wantOne(t, `{"op":"add","path":`+q+`,"value":0}`, told{api.Add, want, nil, `0`})
		wantOne(t, `{"op":"remove","path":`+q+`}`, told{api.Remove, want, nil, ""})
		wantOne(t, `{"op":"replace","path":`+q+`,"value":0}`, told{api.Replace, want, nil, `0`})
		wantOne(t, `{"op":"test","path":`+q+`,"value":0}`, told{api.Test, want, nil, `0`})
		for name, op := range map[string]int{"move": api.Move, "copy": api.Copy} {
			wantOne(t, `{"op":"`+name+`","path":`+q+`,"from":"/x"}`, told{op, want, []string{"x"}, ""})
			wantOne(t, `{"op":"`+name+`","path":"/x","from":`+q+`}`, told{op, []string{"x"}, want, ""})
		}
		if len(q) < 1000 {
			wantOne(t, `{"op":"move","path":`+q+`,"from":`+q+`}`, told{api.Move, want, want, ""})
			wantOne(t, `{"op":"copy","path":`+q+`,"from":`+q+`}`, told{api.Copy, want, want, ""})
		}
	}
}

// P8.1: texts that are no pointers.
func TestNoPointers(t *testing.T) {
	for _, s := range []string{"a", "a/b", "0", "-", " ", " /a", "#", "#/a", "~", "~0", "~1", "/~", "/~2", "/a~", "/~/0", "/a/~a", "/~0~", "/~01~x", "\\", "\u00e9", "add"} {
		q := show.Show(quoted(s))
		for _, op := range []string{"add", "replace", "test"} {
			wantBad(t, `{"op":"`+op+`","path":`+q+`,"value":1}`)
		}
		wantBad(t, `{"op":"remove","path":`+q+`}`)
		for _, op := range []string{"move", "copy"} {
			wantBad(t, `{"op":"`+op+`","path":`+q+`,"from":""}`)
			wantBad(t, `{"op":"`+op+`","path":"","from":`+q+`}`)
		}
	}
}

// P8.1: a value of each kind is one that is put in, or held against what is there, null too.
func TestValues(t *testing.T) {
	for _, s := range []string{`null`, `false`, `true`, `0`, `1`, `-15e-2`, `1e1000`, `""`, `"/a"`, `"~"`, `"add"`, `[]`, `[1,[null],{}]`, `{}`, `{"":{"a":[]}}`, `{"op":"add","path":"","value":{}}`, `[[{"op":5}]]`} {
		wantOne(t, `{"op":"add","path":"/a","value":`+s+`}`, told{api.Add, []string{"a"}, nil, s})
		wantOne(t, `{"op":"replace","path":"/a","value":`+s+`}`, told{api.Replace, []string{"a"}, nil, s})
		wantOne(t, `{"op":"test","path":"/a","value":`+s+`}`, told{api.Test, []string{"a"}, nil, s})
		// Where it means nothing it isn't told.
		wantOne(t, `{"op":"remove","path":"/a","value":`+s+`}`, told{api.Remove, []string{"a"}, nil, ""})
		wantOne(t, `{"op":"move","path":"/a","from":"/b","value":`+s+`}`, told{api.Move, []string{"a"}, []string{"b"}, ""})
		wantOne(t, `{"op":"copy","path":"/a","from":"/b","value":`+s+`}`, told{api.Copy, []string{"a"}, []string{"b"}, ""})
	}
}

// P8.1, P8.3: a from that means nothing isn't told, and may be anything.
func TestFromThatMeansNothing(t *testing.T) {
	for _, s := range []string{`"/b"`, `""`, `"b"`, `"~"`, `null`, `5`, `true`, `[]`, `["/b"]`, `{}`} {
		wantOne(t, `{"op":"add","path":"/a","value":1,"from":`+s+`}`, told{api.Add, []string{"a"}, nil, `1`})
		wantOne(t, `{"op":"remove","path":"/a","from":`+s+`}`, told{api.Remove, []string{"a"}, nil, ""})
		wantOne(t, `{"op":"replace","path":"/a","value":1,"from":`+s+`}`, told{api.Replace, []string{"a"}, nil, `1`})
		wantOne(t, `{"op":"test","path":"/a","value":1,"from":`+s+`}`, told{api.Test, []string{"a"}, nil, `1`})
	}
}

// P8.1: what isn't an Object, or lacks a member, or has another in its place.
func TestNoOperations(t *testing.T) {
	for _, s := range []string{`null`, `true`, `false`, `0`, `6`, `"add"`, `""`, `[]`, `[{"op":"remove","path":""}]`, `["op","remove","path",""]`, `{}`, `{"op":"remove"}`, `{"path":""}`, `{"path":"","value":1,"from":""}`, `{"add":"","path":""}`, `{"":"remove","path":""}`} {
		wantBad(t, s)
	}
	for _, s := range []string{`null`, `true`, `1`, `2`, `[]`, `["remove"]`, `{}`, `{"op":"remove"}`, `""`, `"Remove"`, `"REMOVE"`, `" remove"`, `"remove "`, `"remov"`, `"removed"`, `"delete"`, `"/remove"`, `"add,remove"`, `"remove\u0000"`, `"\u0000"`, `"adD"`, `"Add"`, `"Replace"`, `"Move"`, `"Copy"`, `"Test"`, `"tests"`, `"put"`, `"set"`, `"null"`, `"0"`, `"1"`, `"2"`, `"~0"`} {
		wantBad(t, `{"op":`+s+`,"path":"","from":"","value":1}`)
	}
	for _, s := range []string{`null`, `false`, `0`, `1`, `[]`, `["a"]`, `["/a"]`, `{}`, `{"path":""}`} {
		for _, op := range []string{"add", "remove", "replace", "move", "copy", "test"} {
			wantBad(t, `{"op":"`+op+`","path":`+s+`,"from":"","value":1}`)
		}
		for _, op := range []string{"move", "copy"} {
			wantBad(t, `{"op":"`+op+`","path":"","from":`+s+`,"value":1}`)
		}
	}
	for _, op := range []string{"add", "remove", "replace", "move", "copy", "test"} {
		for _, path := range []string{"Path", "PATH", "pat", "paths", " path", "path ", "", "from"} {
			wantBad(t, `{"op":"`+op+`","`+path+`":"","frm":"","value":1}`)
		}
		wantBad(t, `{"Op":"`+op+`","path":"","from":"","value":1}`)
		wantBad(t, `{"op":"`+op+`","from":"","value":1}`)
	}
	for _, op := range []string{"add", "replace", "test"} {
		wantBad(t, `{"op":"`+op+`","path":""}`)
		wantBad(t, `{"op":"`+op+`","path":"","from":""}`)
		wantBad(t, `{"op":"`+op+`","path":"","Value":1,"val":1,"values":1,"":1}`)
	}
	for _, op := range []string{"move", "copy"} {
		wantBad(t, `{"op":"`+op+`","path":""}`)
		wantBad(t, `{"op":"`+op+`","path":"","value":""}`)
		wantBad(t, `{"op":"`+op+`","path":"","From":"","to":"","fro":"","":""}`)
	}
}

// P8.1: what is no Array is no patch, even one that would be an operation.
func TestNoPatches(t *testing.T) {
	for _, s := range []string{`null`, `true`, `false`, `0`, `100`, `101`, `""`, `"[]"`, `{}`, `{"op":"remove","path":""}`, `{"0":{"op":"remove","path":""}}`} {
		wantSpot(t, of(t, s), 0, api.ErrForm)
	}
	wide := object()
	for i := range 200 {
		wide.M = append(wide.M, api.Member{Key: strconv.Itoa(1000 + i), V: api.Value{}})
	}
	wantSpot(t, wide, 0, api.ErrForm)
}

// P8.1: as many operations as there may be, and more; too many are told ahead of what is in them.
func TestMany(t *testing.T) {
	good, other := of(t, `{"op":"remove","path":"/a"}`), of(t, `{"op":"add","path":"/b","value":[7]}`)
	a, b := told{api.Remove, []string{"a"}, nil, ""}, told{api.Add, []string{"b"}, nil, `[7]`}
	for _, n := range []int{1, 2, 50, api.MaxOps - 1, api.MaxOps} {
		wantOps(t, array(slices.Repeat([]api.Value{good}, n)...), slices.Repeat([]told{a}, n)...)
		for i := range n {
			l, want := slices.Repeat([]api.Value{good}, n), slices.Repeat([]told{a}, n)
			l[i], want[i] = other, b
			wantOps(t, array(l...), want...)
			l[i] = of(t, `{"op":"add","path":"/b"}`)
			wantSpot(t, array(l...), i, api.ErrForm)
			l[n-1] = quoted("none")
			wantSpot(t, array(l...), i, api.ErrForm)
		}
	}
	for _, n := range []int{api.MaxOps + 1, api.MaxOps + 2, 2 * api.MaxOps, 256, 100000} {
		for _, x := range []api.Value{good, {}, array(), object(), quoted("remove")} {
			l := slices.Repeat([]api.Value{x}, n)
			wantSpot(t, array(l...), api.MaxOps, api.ErrLarge)
			l[0] = quoted("none")
			wantSpot(t, array(l...), api.MaxOps, api.ErrLarge)
			l[0], l[n-1] = good, quoted("none")
			wantSpot(t, array(l...), api.MaxOps, api.ErrLarge)
		}
	}
}

// opNames are the operations' names, each at its number.
func opNames() []string { return []string{"", "add", "remove", "replace", "move", "copy", "test"} }

var aPointer = regexp.MustCompile(`^(?s:(/([^/~]|~[01])*)*)$`)

// namesOf are a pointer's names, if a text in quotes is one, read by the library.
func namesOf(raw json.RawMessage) ([]string, bool) {
	var s *string
	if json.Unmarshal(raw, &s) != nil || s == nil || !aPointer.MatchString(*s) {
		return nil, false
	}
	l := strings.Split(*s, "/")[1:]
	for i, name := range l {
		l[i] = strings.NewReplacer("~1", "/", "~0", "~").Replace(name)
	}
	return l, true
}

// oracle is what a text is as an operation, read by the library.
func oracle(raw json.RawMessage) (told, bool) {
	var m map[string]json.RawMessage
	var name string
	if json.Unmarshal(raw, &m) != nil || json.Unmarshal(m["op"], &name) != nil {
		return told{}, false
	}
	w := told{op: slices.Index(opNames()[1:], name) + 1}
	path, ok := namesOf(m["path"])
	if w.op == 0 || !ok {
		return told{}, false
	}
	w.path = path
	if strings.Contains(" move copy ", " "+name+" ") {
		w.from, ok = namesOf(m["from"])
	} else if name != "remove" {
		w.v = string(m["value"])
		ok = w.v != ""
	}
	return w, ok
}

// check asks for what the oracle has, and tells whether all were operations.
func check(t *testing.T, v api.Value) bool {
	t.Helper()
	s := show.Show(v)
	var l []json.RawMessage
	if err := json.Unmarshal([]byte(s), &l); err != nil || l == nil {
		wantSpot(t, v, 0, api.ErrForm)
		return false
	}
	if len(l) > api.MaxOps {
		wantSpot(t, v, api.MaxOps, api.ErrLarge)
		return false
	}
	var want []told
	for i, raw := range l {
		w, ok := oracle(raw)
		if !ok {
			wantSpot(t, v, i, api.ErrForm)
			return false
		}
		want = append(want, w)
	}
	wantOps(t, v, want...)
	return true
}

// sorted is an Object of members in any order, of each key the last.
func sorted(l []api.Member) api.Value {
	m := map[string]api.Value{}
	for _, x := range l {
		m[x.Key] = x.V
	}
	v := object()
	for k, x := range m {
		v.M = append(v.M, api.Member{Key: k, V: x})
	}
	slices.SortFunc(v.M, func(a, b api.Member) int { return strings.Compare(a.Key, b.Key) })
	return v
}

// randomValue may be, and is now and then a pointer's text, or an operation's name.
func randomValue(r *rand.Rand, levels int) api.Value {
	switch k := r.Intn(10); {
	case k < 2:
		return api.Value{Kind: k, B: k == api.Bool && r.Intn(2) == 0}
	case k == 2:
		return api.Value{Kind: api.Number, N: api.Num{Digits: strconv.Itoa(11 + 10*r.Intn(50))}}
	case k < 6 || levels == 0:
		return quoted([]string{"", "/a", "/a/b", "/~0~1", "/-", "/0", "~", "a", "/~", "add", "remove", "copy"}[r.Intn(12)])
	case k < 8:
		v := array()
		for range r.Intn(4) {
			v.L = append(v.L, randomValue(r, levels-1))
		}
		return v
	}
	var l []api.Member
	for range r.Intn(4) {
		l = append(l, api.Member{Key: []string{"op", "path", "from", "value", "", "x"}[r.Intn(6)], V: randomValue(r, levels-1)})
	}
	return sorted(l)
}

// randomOp is an operation, with some change here and there in one of so many.
func randomOp(r *rand.Rand, among int) api.Value {
	pointers := []string{"", "/", "/a", "/a/b", "/~0~1", "/~01", "/-", "/0/1", "//"}
	l := []api.Member{{Key: "op", V: quoted(opNames()[1+r.Intn(6)])}, {Key: "path", V: quoted(pointers[r.Intn(9)])}, {Key: "from", V: quoted(pointers[r.Intn(9)])}, {Key: "value", V: randomValue(r, 3)}}
	if r.Intn(2) == 0 {
		l = append(l, api.Member{Key: []string{"", "Op", "op ", "paths", "xyz", "from\x00"}[r.Intn(6)], V: randomValue(r, 3)})
	}
	if r.Intn(among) == 0 {
		l[r.Intn(len(l))].V = randomValue(r, 2)
	}
	if r.Intn(among) == 0 {
		l = slices.Delete(l, r.Intn(4), len(l))
	}
	if r.Intn(among) == 0 {
		k := r.Intn(len(l) + 1)
		l = slices.Delete(l, max(k-1, 0), k)
	}
	return sorted(l)
}

// P8.1: random patches, and values that are none.
func TestRandom(t *testing.T) {
	r := rand.New(rand.NewSource(1))
	good := 0
	const all = 20000
	for i := range all {
		v := array()
		for range r.Intn(8) {
			v.L = append(v.L, randomOp(r, 10))
		}
		switch i % 20 {
		case 0:
			v = randomValue(r, 3)
		case 1:
			v.L = append(v.L, randomValue(r, 2))
		}
		if !value.May(v) {
			t.Fatalf("%s may not be", show.Show(v))
		}
		if check(t, v) {
			good++
		}
	}
	if good < all/5 || all-good < all/5 {
		t.Error("too few of one kind:", good)
	}
}

// P8.1: all operations of chosen members: each one there, of another kind, or not.
func TestAllChosen(t *testing.T) {
	ops := []string{"", `null`, `5`, `"none"`, `["add"]`}
	for _, name := range opNames() {
		ops = append(ops, `"`+name+`"`)
	}
	texts := []string{"", `null`, `0`, `""`, `"/a~1"`, `"a"`, `"/~"`, `[]`, `{}`}
	values := []string{"", `null`, `"x"`, `[{}]`}
	for _, op := range ops {
		for _, path := range texts {
			for _, from := range texts {
				for _, v := range values {
					var l []api.Member
					for i, s := range []string{op, path, from, v} {
						if s != "" {
							l = append(l, api.Member{Key: []string{"op", "path", "from", "value"}[i], V: of(t, s)})
						}
					}
					check(t, array(sorted(l)))
				}
			}
		}
	}
}

// P8.3: more members that mean nothing change nothing.
func TestMoreMembers(t *testing.T) {
	r := rand.New(rand.NewSource(2))
	more := []string{"", " ", "-", "Op", "OP", "Path", "From", "Value", "o", "opp", "op\x00", "fro", "from ", "pathpath", "to", "val", "values", "\u00f6p", "\uffff", "zz", "0", "/op", "~"}
	done := 0
	for range 2000 {
		x := randomOp(r, 20)
		before, err := Read(array(x))
		// From and value may stand in any operation; where it doesn't need them they mean nothing.
		free := slices.Clone(more)
		if err == nil && before[0].Op != api.Move && before[0].Op != api.Copy {
			free = append(free, "from", "from", "from")
		}
		if err == nil && (before[0].Op == api.Remove || before[0].Op == api.Move || before[0].Op == api.Copy) {
			free = append(free, "value", "value", "value")
		}
		l := slices.Clone(x.M)
		for range 1 + r.Intn(20) {
			l = append(l, api.Member{Key: free[r.Intn(len(free))], V: randomValue(r, 3)})
		}
		after, other := Read(array(sorted(l)))
		if !reflect.DeepEqual(before, after) || (err == nil) != (other == nil) {
			t.Errorf("%s: %+v, %v, and with more %+v, %v", show.Show(x), before, err, after, other)
		}
		if err == nil {
			done++
			// Nor does it when they are gone.
			bare := slices.DeleteFunc(l, func(m api.Member) bool {
				return !slices.Contains([]string{"op", "path", "from", "value"}, m.Key) || slices.Contains(free, m.Key)
			})
			if last, err := Read(array(sorted(bare))); err != nil || !reflect.DeepEqual(before, last) {
				t.Errorf("%s: %+v, and bare %+v, %v", show.Show(x), before, last, err)
			}
		}
	}
	if done < 1000 {
		t.Error("too few:", done)
	}
}

// R2: nothing that is handed in is changed, nor what stands behind its lists.
func TestNothingChanged(t *testing.T) {
	r := rand.New(rand.NewSource(3))
	for range 3000 {
		room := make([]api.Value, 0, 12)
		for range r.Intn(6) {
			room = append(room, randomOp(r, 15))
		}
		n := len(room)
		room = append(room, quoted("behind"))
		v := array()
		v.L = room[:n]
		before := clone(v)
		Read(v)
		if !reflect.DeepEqual(clone(v), before) || room[n].S != "behind" {
			t.Fatalf("changed: %s, %+v", show.Show(v), room[n])
		}
	}
}

// R2, P8.2: lists of operations and names are the caller's own; nothing is kept from call to call.
func TestTellingAnew(t *testing.T) {
	const s = `[{"op":"move","path":"/a/b","from":"/a/b"},{"op":"move","path":"/a/b","from":"/a/b"},{"op":"add","path":"/a/b","value":{"x":[1]}}]`
	v := of(t, s)
	want := []told{{api.Move, []string{"a", "b"}, []string{"a", "b"}, ""}, {api.Move, []string{"a", "b"}, []string{"a", "b"}, ""}, {api.Add, []string{"a", "b"}, nil, `{"x":[1]}`}}
	l, _ := Read(v)
	for i := range l {
		for _, names := range []*[]string{&l[i].Path, &l[i].From} {
			for k := range *names {
				(*names)[k] = strconv.Itoa(k)
			}
			*names = append(*names, "more")
			for _, o := range l[i+1:] {
				if !slices.Equal(o.Path, []string{"a", "b"}) || o.Op == api.Move && !slices.Equal(o.From, []string{"a", "b"}) {
					t.Fatalf("two lists share their names: %+v", o)
				}
			}
		}
		if i < 2 && !slices.Equal(l[i].Path, l[i].From) {
			t.Errorf("%+v", l[i])
		}
	}
	l[2] = l[0]
	_ = append(l, api.Op{})
	wantOps(t, v, want...)
	if show.Show(v) != show.Show(of(t, s)) {
		t.Error("changed:", show.Show(v))
	}
	bad := of(t, `[{"op":"remove","path":""},1]`)
	_, err := Read(bad)
	err.(*api.Spot).At = 77
	wantSpot(t, bad, 1, api.ErrForm)
	wantOps(t, v, want...)
	// What was read stays, whatever the value's text becomes behind it.
	l, _ = Read(v)
	v.L[0], v.L[1].M[0].V = api.Value{}, api.Value{}
	if len(l) != 3 || !slices.Equal(l[0].Path, []string{"a", "b"}) || !slices.Equal(l[1].From, []string{"a", "b"}) {
		t.Errorf("%+v", l)
	}
	wantSpot(t, v, 0, api.ErrForm)
}

// P1: down to the document's bound of levels, and with long lists; only what an operation means is gone into.
func TestDeepAndLong(t *testing.T) {
	deep := api.Value{Kind: api.Array}
	for k := range 1<<16 - 3 {
		if k%2 == 0 {
			deep = array(deep)
		} else {
			deep = object(api.Member{Key: "op", V: deep})
		}
	}
	wantSpot(t, deep, 0, api.ErrForm)
	wantSpot(t, array(deep), 0, api.ErrForm)
	op := object(api.Member{Key: "op", V: quoted("add")}, api.Member{Key: "path", V: quoted("/a")}, api.Member{Key: "value", V: deep})
	l, err := Read(array(op, op))
	if err != nil || len(l) != 2 || value.Depth(l[1].V) != value.Depth(deep) || !value.Same(l[0].V, deep) {
		t.Error(len(l), err)
	}
	op.M[0].V = deep
	wantSpot(t, array(op), 0, api.ErrForm)
	const n = 1 << 18
	long := object(api.Member{Key: "from", V: quoted(strings.Repeat("/~01", n))}, api.Member{Key: "op", V: quoted("copy")}, api.Member{Key: "path", V: quoted("/" + strings.Repeat("a", n))})
	l, err = Read(array(long))
	if err != nil || len(l) != 1 || !slices.Equal(l[0].Path, []string{strings.Repeat("a", n)}) || !slices.Equal(l[0].From, slices.Repeat([]string{"~1"}, n)) {
		t.Error(len(l), err)
	}
	long.M[0].V.S += "~"
	wantSpot(t, array(long), 0, api.ErrForm)
	long.M[0].V.S, long.M[1].V.S = "", strings.Repeat("copy", n)
	wantSpot(t, array(long), 0, api.ErrForm)
}

// R2: what else is read at the same time doesn't matter.
func TestAtOnce(t *testing.T) {
	r := rand.New(rand.NewSource(4))
	var l []api.Value
	for range 300 {
		v := array()
		for range r.Intn(6) {
			v.L = append(v.L, randomOp(r, 15))
		}
		l = append(l, v)
	}
	var readers sync.WaitGroup
	for range 8 {
		readers.Go(func() {
			for _, v := range l {
				check(t, v)
			}
		})
	}
	readers.Wait()
}

// P8.1: any value as a patch, as an operation, and any text as a pointer and a name.
func FuzzRead(f *testing.F) {
	f.Add(`[{"op":"add","path":"/a~1b","value":1}]`, "/a/~0")
	f.Add(`{"op":"move","path":"","from":"/-"}`, "copy")
	f.Add(`{"op":"test","path":"/","value":null,"x":[]}`, "~")
	f.Fuzz(func(t *testing.T, s, p string) {
		v, err := parse.Parse(s)
		if err != nil {
			return
		}
		check(t, v)
		check(t, array(v))
		p = strings.ToValidUTF8(p, "")
		for _, name := range append(opNames(), p) {
			check(t, array(sorted([]api.Member{{Key: "op", V: quoted(name)}, {Key: "path", V: quoted(p)}, {Key: "from", V: quoted("/" + p)}, {Key: "value", V: v}, {Key: p, V: v}})))
			check(t, array(sorted([]api.Member{{Key: "op", V: quoted(name)}, {Key: "path", V: quoted("/" + p)}, {Key: "from", V: quoted(p)}})))
		}
	})
}
