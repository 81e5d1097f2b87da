package apply

import (
	"errors"
	"math/rand"
	"reflect"
	"slices"
	"strconv"
	"strings"
	"sync"
	"testing"

	"doublet/api"
	"doublet/edit"
	"doublet/parse"
	"doublet/patch"
	"doublet/ptr"
	"doublet/show"
	"doublet/value"
)

func digits(s string) api.Value             { return api.Value{Kind: api.Number, N: api.Num{Digits: s}} }
func text(s string) api.Value               { return api.Value{Kind: api.String, S: s} }
func array(l ...api.Value) api.Value        { return api.Value{Kind: api.Array, L: l} }
func object(l ...api.Member) api.Value      { return api.Value{Kind: api.Object, M: l} }
func pair(k string, v api.Value) api.Member { return api.Member{Key: k, V: v} }

// names make a pointer of texts.
func names(l ...string) []string { return l }

// long is an array of so many values within it, itself counted: its size is n.
func long(n int) api.Value { return array(slices.Repeat([]api.Value{digits("1")}, n-1)...) }

// deep is an array of so many levels.
func deep(levels int) api.Value {
	v := array()
	for range levels - 1 {
		v = array(v)
	}
	return v
}

// clone shares no list with v.
func clone(v api.Value) api.Value {
	v.L, v.M = slices.Clone(v.L), slices.Clone(v.M)
	for i := range v.L {
		v.L[i] = clone(v.L[i])
	}
	for i := range v.M {
		v.M[i].V = clone(v.M[i].V)
	}
	return v
}

// cloneOps share no list with l.
func cloneOps(l []api.Op) []api.Op {
	l = slices.Clone(l)
	for i := range l {
		l[i].Path, l[i].From, l[i].V = slices.Clone(l[i].Path), slices.Clone(l[i].From), clone(l[i].V)
	}
	return l
}

// of is the value of a text.
func of(t *testing.T, s string) api.Value {
	t.Helper()
	v, err := parse.Parse(s)
	if err != nil {
		t.Fatalf("%.200q is no value: %v", s, err)
	}
	return v
}

// ops are the operations of a patch's text.
func ops(t *testing.T, s string) []api.Op {
	t.Helper()
	l, err := patch.Read(of(t, s))
	if err != nil {
		t.Fatalf("%.200q is no patch: %v", s, err)
	}
	return l
}

// add, remove, replace, move, copied and test are operations' texts.
func add(path, v string) string { return `{"op":"add","path":"` + path + `","value":` + v + `}` }
func remove(path string) string { return `{"op":"remove","path":"` + path + `"}` }
func replace(path, v string) string {
	return `{"op":"replace","path":"` + path + `","value":` + v + `}`
}
func move(from, path string) string {
	return `{"op":"move","from":"` + from + `","path":"` + path + `"}`
}
func copyTo(from, path string) string {
	return `{"op":"copy","from":"` + from + `","path":"` + path + `"}`
}
func testThat(path, v string) string   { return `{"op":"test","path":"` + path + `","value":` + v + `}` }
func patchOf(l ...string) string       { return "[" + strings.Join(l, ",") + "]" }
func errorAt(code api.Code, i int) any { return api.Spot{At: i, Code: code} }

// want asks for a text's value; or for a Spot itself, and nothing beside it: P9.1, R3.
func want(t *testing.T, v api.Value, l []api.Op, want any) {
	t.Helper()
	got, err := Apply(v, l)
	what := show.Show(v)
	if s, ok := want.(string); ok {
		if err != nil || show.Show(got) != s || !value.May(got) {
			t.Errorf("%.300s, %.300s: %.300s, %v, want %.300s", what, shown(l), show.Show(got), err, s)
		}
		return
	}
	spot, ok := err.(*api.Spot)
	if !ok || *spot != want || !reflect.DeepEqual(got, api.Value{}) {
		t.Errorf("%.300s, %.300s: %.300s, %v, want %+v", what, shown(l), show.Show(got), err, want)
	}
}

// shown is a patch's text, for messages.
func shown(l []api.Op) string {
	var b strings.Builder
	for _, o := range l {
		b.WriteString(strconv.Itoa(o.Op) + " " + ptr.Show(o.From) + " " + ptr.Show(o.Path) + " " + show.Show(o.V) + "; ")
	}
	return b.String()
}

// wantOf is want of texts, and asks that nothing is changed: P9.2.
func wantOf(t *testing.T, v string, result any, l ...string) {
	t.Helper()
	x, p := of(t, v), ops(t, patchOf(l...))
	want(t, x, p, result)
	if !reflect.DeepEqual(x, of(t, v)) || !reflect.DeepEqual(p, ops(t, patchOf(l...))) {
		t.Errorf("%s, %s changed: %s, %s", v, patchOf(l...), show.Show(x), shown(p))
	}
}

// P9.1: without operations the value is told as it is, whatever it is.
func TestNoOperations(t *testing.T) {
	for _, s := range []string{`null`, `false`, `true`, `0`, `-15e-2`, `""`, `"a"`, `[]`, `[1]`, `{}`, `{"a":[{}]}`} {
		wantOf(t, s, s)
		want(t, of(t, s), nil, s)
		want(t, of(t, s), []api.Op{}, s)
	}
	for _, v := range []api.Value{long(api.MaxSize + 1), deep(api.MaxDepth + 1), deep(100), array(long(2000), long(2000))} {
		for _, l := range [][]api.Op{nil, {}} {
			want(t, v, l, show.Show(v))
		}
	}
}

// P9.1: Add, Remove and Replace, as layer 7 has them.
func TestChanges(t *testing.T) {
	v := `{"a":[1,{"b":2}],"c":3}`
	wantOf(t, v, `{"a":[1,{"b":2}],"c":3,"d":4}`, add("/d", `4`))
	wantOf(t, v, `{"a":[1,{"b":2}],"c":4}`, add("/c", `4`))
	wantOf(t, v, `{"a":[4,1,{"b":2}],"c":3}`, add("/a/0", `4`))
	wantOf(t, v, `{"a":[1,4,{"b":2}],"c":3}`, add("/a/1", `4`))
	wantOf(t, v, `{"a":[1,{"b":2},4],"c":3}`, add("/a/2", `4`))
	wantOf(t, v, `{"a":[1,{"b":2},4],"c":3}`, add("/a/-", `4`))
	wantOf(t, v, `[[]]`, add("", `[[]]`))
	wantOf(t, v, `{"c":3}`, remove("/a"))
	wantOf(t, v, `{"a":[{"b":2}],"c":3}`, remove("/a/0"))
	wantOf(t, v, `{"a":[1,{}],"c":3}`, remove("/a/1/b"))
	wantOf(t, v, `{"a":null,"c":3}`, replace("/a", `null`))
	wantOf(t, v, `{"a":["x",{"b":2}],"c":3}`, replace("/a/0", `"x"`))
	wantOf(t, v, `{"a":[1,{"b":{"b":2}}],"c":3}`, replace("/a/1/b", `{"b":2}`))
	wantOf(t, v, `0`, replace("", `0`))
	none := errorAt(api.ErrNone, 0)
	for _, p := range []string{"/a/3", "/a/00", "/a/x", "/c/0", "/c/-", "/d/e", "/a/-/b", "/a/0/"} {
		wantOf(t, v, none, add(p, `4`))
	}
	for _, p := range []string{"/d", "/", "/a/2", "/a/-", "/a/01", "/c/0", "/d/e", "/a/1/c"} {
		wantOf(t, v, none, remove(p))
		wantOf(t, v, none, replace(p, `4`))
	}
	for _, s := range []string{v, `null`, `[]`, `1`} {
		wantOf(t, s, errorAt(api.ErrRoot, 0), remove(""))
	}
}

// P9.1: what is moved isn't where it was, and is where it is told to be, found once it is gone.
func TestMove(t *testing.T) {
	wantOf(t, `{"a":1}`, `{"b":1}`, move("/a", "/b"))
	wantOf(t, `{"b":1}`, `{"a":1}`, move("/b", "/a"))
	wantOf(t, `{"a":1,"b":2}`, `{"b":1}`, move("/a", "/b"))
	wantOf(t, `{"a":1,"b":2}`, `{"a":2}`, move("/b", "/a"))
	wantOf(t, `{"":1}`, `{"a":1}`, move("/", "/a"))
	wantOf(t, `{"a":1}`, `{"":1}`, move("/a", "/"))
	wantOf(t, `{"a":1}`, `{"-":1}`, move("/a", "/-"))
	// In one array, ahead and behind; its places are those without it.
	list := `[0,1,2,3]`
	for _, c := range []struct{ from, path, want string }{
		{"/0", "/1", `[1,0,2,3]`}, {"/0", "/2", `[1,2,0,3]`}, {"/0", "/3", `[1,2,3,0]`}, {"/0", "/-", `[1,2,3,0]`},
		{"/1", "/0", `[1,0,2,3]`}, {"/1", "/2", `[0,2,1,3]`}, {"/1", "/3", `[0,2,3,1]`}, {"/1", "/-", `[0,2,3,1]`},
		{"/2", "/0", `[2,0,1,3]`}, {"/2", "/1", `[0,2,1,3]`}, {"/2", "/3", `[0,1,3,2]`}, {"/2", "/-", `[0,1,3,2]`},
		{"/3", "/0", `[3,0,1,2]`}, {"/3", "/1", `[0,3,1,2]`}, {"/3", "/2", `[0,1,3,2]`}, {"/3", "/-", list},
	} {
		wantOf(t, list, c.want, move(c.from, c.path))
		wantOf(t, `{"k":`+list+`}`, `{"k":`+c.want+`}`, move("/k"+c.from, "/k"+c.path))
		wantOf(t, `[[],`+list+`]`, `[[],`+c.want+`]`, move("/1"+c.from, "/1"+c.path))
	}
	for k := range 4 {
		// One place fewer is there, once it is gone.
		wantOf(t, list, errorAt(api.ErrNone, 0), move("/"+strconv.Itoa(k), "/4"))
	}
	// Further out, further in, and from one into another.
	wantOf(t, `{"a":{"b":1}}`, `{"a":1}`, move("/a/b", "/a"))
	wantOf(t, `{"a":{"b":1}}`, `1`, move("/a/b", ""))
	wantOf(t, `{"a":{"b":1}}`, `{"b":1}`, move("/a", ""))
	wantOf(t, `{"a":{"b":1}}`, `{"a":{},"b":1}`, move("/a/b", "/b"))
	wantOf(t, `{"a":{"b":1},"c":2}`, `{"a":{"b":2}}`, move("/c", "/a/b"))
	wantOf(t, `{"a":{"b":1},"c":2}`, `{"a":{"b":1,"c":2}}`, move("/c", "/a/c"))
	wantOf(t, `[[0,1],[2,3]]`, `[[1],[2,0,3]]`, move("/0/0", "/1/1"))
	wantOf(t, `[[0,1],[2,3]]`, `[[0,1,2],[3]]`, move("/1/0", "/0/-"))
	wantOf(t, `[[0,1],[2,3]]`, `[0,[1],[2,3]]`, move("/0/0", "/0"))
	wantOf(t, `[1,[2],[3]]`, `[[2],[1,3]]`, move("/0", "/1/0"))
	wantOf(t, `[[2],1]`, `[[1,2]]`, move("/1", "/0/0"))
	wantOf(t, `{"a":[1],"b":[]}`, `{"a":[],"b":[1]}`, move("/a/0", "/b/-"))
	// Names alike at their fronts are others.
	wantOf(t, `{"a":1,"ab":{}}`, `{"ab":{"c":1}}`, move("/a", "/ab/c"))
	wantOf(t, `{"a":1,"a/b":2}`, `{"a/b":1}`, move("/a", "/a~1b"))
	wantOf(t, `{"1":{},"11":{}}`, `{"11":{"1":{}}}`, move("/1", "/11/1"))
	wantOf(t, `{"":{},"a":1}`, `{"":{"b":1}}`, move("/a", "//b"))
	wantOf(t, `{"":{"":5}}`, `{"":5}`, move("//", "/"))
	// Nothing is there, ahead of or behind what is moved.
	none := errorAt(api.ErrNone, 0)
	for _, c := range []struct{ v, from, path string }{
		{`{}`, "/a", "/b"}, {`{}`, "/a", ""}, {`{"a":1}`, "/b", "/a"}, {`[1]`, "/1", "/0"}, {`[1]`, "/-", "/0"}, {`[1]`, "/0", "/1"},
		{`[1]`, "/00", "/0"}, {`{"a":1}`, "/a", "/b/c"}, {`{"a":1,"b":2}`, "/a", "/b/c"},
		{`{"a":1,"b":[]}`, "/a", "/b/1"}, {`{"a":1,"b":[]}`, "/a", "/b/x"}, {`1`, "/0", "/1"}, {`"a"`, "/0", ""}, {`null`, "/a", "/b"},
	} {
		wantOf(t, c.v, none, move(c.from, c.path))
	}
	// What isn't there any more, once what is moved is gone: the element that came into its place is none for a name.
	wantOf(t, `[1,[2]]`, none, move("/0", "/1/0"))
	wantOf(t, `[1,[2]]`, `[[1,2]]`, move("/0", "/-"), move("/1", "/0/0"))
	wantOf(t, `[{},1]`, `[{"a":1}]`, move("/1", "/0/a"))
	wantOf(t, `[1,{}]`, none, move("/0", "/1/a"))
}

// P9.1: where it is, something may be moved to; if something is there.
func TestMoveNowhere(t *testing.T) {
	v := `{"":[1,{"-":2}],"a":[[]],"b":null}`
	for _, p := range []string{"", "/", "//0", "//1", "//1/-", "/a", "/a/0", "/b"} {
		wantOf(t, v, v, move(p, p))
		wantOf(t, v, v, move(p, p), move(p, p))
	}
	for _, s := range []string{`null`, `0`, `"a"`, `[]`, `[1]`, `{}`, `{"a":1}`} {
		wantOf(t, s, s, move("", ""))
		want(t, of(t, s), []api.Op{{Op: api.Move}}, s)
		want(t, of(t, s), []api.Op{{Op: api.Move, Path: names(), From: nil}, {Op: api.Move, Path: nil, From: names()}}, s)
	}
	for _, p := range []string{"/c", "//2", "//-", "//1/0", "/a/-", "/a/1", "/a/0/0", "/a/00", "/b/b", "/x/y"} {
		wantOf(t, v, errorAt(api.ErrNone, 0), move(p, p))
	}
	wantOf(t, `[1,2]`, `[2,1]`, move("/0", "/-"))
	wantOf(t, `[1,2]`, `[1,2]`, move("/1", "/-"))
}

// P9.1: into itself nothing can be moved, whether it is there or not.
func TestMoveInto(t *testing.T) {
	into := errorAt(api.ErrInto, 0)
	v := `{"":{},"a":{"b":{"c":[1,[]]}}}`
	for _, from := range []string{"", "/", "/a", "/a/b", "/a/b/c", "/a/b/c/0", "/a/b/c/1", "/a/b/c/2", "/a/b/c/-", "/x", "/x/y", "/a/x", "//"} {
		for _, more := range []string{"/", "/-", "/0", "/1", "/a", "/b", "/c", "/x/y", "//", "/~0/~1", "/a/b/c"} {
			wantOf(t, v, into, move(from, from+more))
			wantOf(t, `1`, into, move(from, from+more))
		}
	}
	// Ahead of it there may be something else amiss, which isn't told.
	wantOf(t, v, into, move("/a", "/a/x/y"))
	wantOf(t, v, into, move("/x", "/x/0"))
	// The other way round, or beside it, is no error.
	wantOf(t, `{"a":{"b":1}}`, `{"a":1}`, move("/a/b", "/a"))
	wantOf(t, `{"a":1,"b":{"a":2}}`, `{"b":{"a":1}}`, move("/a", "/b/a"))
	wantOf(t, `{"a":{},"b":{"a":{}}}`, `{"b":{"a":{"a":{}}}}`, move("/a", "/b/a/a"))
	wantOf(t, `{"ab":1}`, errorAt(api.ErrNone, 0), move("/a", "/ab"))
	// It is so though what it would come into, once it is gone, is another one.
	wantOf(t, `[1,[2,3]]`, into, move("/0", "/0/1"))
	wantOf(t, `[[1],2]`, into, move("/0", "/0/0"))
	// Names are compared, not what they lead to.
	wantOf(t, `[[1]]`, errorAt(api.ErrNone, 0), move("/00", "/0/0"))
	wantOf(t, `[[],[2]]`, errorAt(api.ErrNone, 0), move("/1", "/01/0"))
}

// P9.1: what is copied is in both places, and as it was when it was copied.
func TestCopy(t *testing.T) {
	wantOf(t, `{"a":1}`, `{"a":1,"b":1}`, copyTo("/a", "/b"))
	wantOf(t, `{"a":1,"b":2}`, `{"a":1,"b":1}`, copyTo("/a", "/b"))
	wantOf(t, `{"a":1}`, `{"a":1}`, copyTo("/a", "/a"))
	wantOf(t, `{"a":1}`, `{"a":{"a":1}}`, copyTo("", "/a"))
	wantOf(t, `{"a":1}`, `{"a":1}`, copyTo("", ""))
	wantOf(t, `{"a":1}`, `1`, copyTo("/a", ""))
	wantOf(t, `[0,1,2]`, `[0,1,2,0]`, copyTo("/0", "/3"))
	wantOf(t, `[0,1,2]`, `[0,1,2,0]`, copyTo("/0", "/-"))
	wantOf(t, `[0,1,2]`, `[0,0,1,2]`, copyTo("/0", "/0"))
	wantOf(t, `[0,1,2]`, `[0,2,1,2]`, copyTo("/2", "/1"))
	wantOf(t, `[0,1]`, `[0,1,[0,1]]`, copyTo("", "/-"))
	wantOf(t, `[0,1]`, `[[0,1],0,1]`, copyTo("", "/0"))
	// Into itself there may be copied.
	wantOf(t, `{"a":{"b":1}}`, `{"a":{"b":{"b":1}}}`, copyTo("/a", "/a/b"))
	wantOf(t, `{"a":{"b":1}}`, `{"a":{"b":1,"c":{"b":1}}}`, copyTo("/a", "/a/c"))
	wantOf(t, `{"a":{"b":1}}`, `{"a":1}`, copyTo("/a/b", "/a"))
	wantOf(t, `[[1]]`, `[[1,[1]]]`, copyTo("/0", "/0/-"))
	// Behind it, each of both is its own.
	wantOf(t, `{"a":[1]}`, `{"a":[1,2],"b":[3,1]}`, copyTo("/a", "/b"), add("/a/-", `2`), add("/b/0", `3`))
	wantOf(t, `{"a":{"x":[]}}`, `{"a":{"x":[1]},"b":{"x":[2]}}`, copyTo("/a", "/b"), add("/a/x/0", `1`), add("/b/x/0", `2`))
	wantOf(t, `{"a":{"x":[]}}`, `{"a":{"x":[]},"b":{}}`, copyTo("/a", "/b"), remove("/b/x"))
	none := errorAt(api.ErrNone, 0)
	for _, c := range []struct{ v, from, path string }{
		{`{}`, "/a", "/b"}, {`{}`, "/a", ""}, {`{}`, "/a", "/a"}, {`{}`, "/a", "/a/b"}, {`{"a":1}`, "/b", "/a"}, {`[1]`, "/1", "/0"}, {`[1]`, "/-", "/0"},
		{`[1]`, "/0", "/2"}, {`[1]`, "/00", "/0"}, {`{"a":1}`, "/a", "/b/c"}, {`{"a":1}`, "/a", "/a/0"}, {`[1]`, "/0", "/0/0"}, {`[1]`, "/0", "/-/0"},
		{`1`, "", "/1"}, {`"a"`, "/0", ""}, {`null`, "", "/"}, {`{"a":1}`, "", "/b/c"},
	} {
		wantOf(t, c.v, none, copyTo(c.from, c.path))
	}
}

// P9.1: what is the same passes, and changes nothing; what is another one doesn't.
func TestTest(t *testing.T) {
	same := [][]string{
		{`null`}, {`false`}, {`true`}, {`0`, `-0`, `0.0`, `0e5`, `-0.000`}, {`1e1`, `10`, `10.0`, `1e+1`, `100e-1`, `1.0E+1`}, {`-15e-2`, `-0.15`, `-1.50e-1`},
		{`""`}, {`"a"`, `"\u0061"`}, {`"/"`, `"\/"`, `"\u002f"`}, {`"0"`}, {`"null"`}, {`[]`, `[ ]`}, {`[1,2]`, `[1.0,20e-1]`}, {`[2,1]`}, {`[1]`}, {`[[1,2]]`}, {`[null]`},
		{`{}`}, {`{"a":1,"b":2}`, `{"b":2,"a":1}`, `{"\u0062":2e0,"a":1.0}`}, {`{"a":2,"b":1}`}, {`{"a":1}`}, {`{"a":1,"b":2,"c":3}`}, {`{"0":1,"1":2}`}, {`{"":null}`},
	}
	for i, there := range same {
		for k, given := range same {
			for _, v := range there {
				for _, x := range given {
					canonical := there[0]
					var whole, within, member any = canonical, `[0,` + canonical + `]`, `{"k":[` + canonical + `]}`
					if i != k {
						whole, within, member = errorAt(api.ErrTest, 0), errorAt(api.ErrTest, 0), errorAt(api.ErrTest, 0)
					}
					wantOf(t, v, whole, testThat("", x))
					wantOf(t, `[0,`+v+`]`, within, testThat("/1", x))
					wantOf(t, `{"k":[`+v+`]}`, member, testThat("/k/0", x))
					wantOf(t, `{"k":[`+v+`]}`, member, testThat("/k", `[`+x+`]`))
				}
			}
		}
	}
	for _, c := range []struct{ v, path string }{{`{}`, "/a"}, {`[]`, "/0"}, {`[1]`, "/1"}, {`[1]`, "/-"}, {`[1]`, "/00"}, {`1`, "/0"}, {`null`, "/"}, {`{"a":{}}`, "/a/b/c"}} {
		wantOf(t, c.v, errorAt(api.ErrNone, 0), testThat(c.path, `null`))
		wantOf(t, c.v, errorAt(api.ErrNone, 0), testThat(c.path, `1`))
	}
}

// P9.1: each is done to what those ahead of it came to.
func TestInOrder(t *testing.T) {
	wantOf(t, `{}`, `{"a":{"b":[1,2]}}`, add("/a", `{}`), add("/a/b", `[]`), add("/a/b/-", `2`), add("/a/b/0", `1`))
	wantOf(t, `[]`, `[3,2,1]`, add("/0", `1`), add("/0", `2`), add("/0", `3`))
	wantOf(t, `[]`, `[1,2,3]`, add("/-", `1`), add("/-", `2`), add("/-", `3`))
	wantOf(t, `[1,2,3]`, `[3]`, remove("/0"), remove("/0"))
	wantOf(t, `[1,2,3]`, `[2]`, remove("/2"), remove("/0"))
	wantOf(t, `{"a":1,"b":2}`, `{"a":2,"b":1}`, move("/a", "/x"), move("/b", "/a"), move("/x", "/b"))
	wantOf(t, `{"a":1}`, `{"a":3}`, testThat("/a", `1`), replace("/a", `2`), testThat("/a", `2`), replace("/a", `3`), testThat("/a", `3`))
	wantOf(t, `1`, `[{"b":2}]`, replace("", `{"a":[]}`), add("/a/0", `{}`), add("/a/0/b", `2`), move("/a", ""))
	wantOf(t, `{"a":1}`, `{"d":1}`, move("/a", "/b"), move("/b", "/c"), move("/c", "/d"))
	wantOf(t, `{"a":[1,2]}`, `{"a":[2,1],"b":1}`, move("/a/0", "/b"), copyTo("/b", "/a/-"))
	// Once something is gone, or isn't there yet, it isn't there.
	wantOf(t, `{"a":1}`, errorAt(api.ErrNone, 1), move("/a", "/b"), testThat("/a", `1`))
	wantOf(t, `{"a":1}`, errorAt(api.ErrNone, 1), remove("/a"), remove("/a"))
	wantOf(t, `{"a":1}`, errorAt(api.ErrNone, 0), copyTo("/b", "/c"), add("/b", `1`))
	wantOf(t, `{"a":1}`, errorAt(api.ErrTest, 1), replace("/a", `2`), testThat("/a", `1`))
}

// P9.1: the first error is told, with its operation, whatever comes behind it.
func TestFirstError(t *testing.T) {
	v := of(t, `{"a":[1],"b":2}`)
	one := func(s string) api.Op { return ops(t, patchOf(s))[0] }
	amiss := []struct {
		o    api.Op
		code api.Code
	}{
		{one(add("/x/y", `1`)), api.ErrNone},
		{one(remove("/x")), api.ErrNone},
		{one(replace("/x", `1`)), api.ErrNone},
		{one(move("/x", "/y")), api.ErrNone},
		{one(copyTo("/x", "/y")), api.ErrNone},
		{one(testThat("/x", `1`)), api.ErrNone},
		{one(remove("")), api.ErrRoot},
		{one(move("/a", "/a/0")), api.ErrInto},
		{one(move("/x", "/x/0")), api.ErrInto},
		{one(testThat("/b", `3`)), api.ErrTest},
		{api.Op{Op: api.Add, Path: names("c"), V: long(api.MaxSize)}, api.ErrLarge},
		{api.Op{Op: api.Add, Path: names("c"), V: deep(api.MaxDepth)}, api.ErrDepth},
	}
	fine := ops(t, patchOf(add("/d", `1`), remove("/d"), replace("/b", `2`), testThat("/b", `2`), copyTo("/b", "/e"), move("/e", "/f"), testThat("", `{"a":[1],"b":2,"f":2}`)))
	for k := range len(fine) + 1 {
		for _, first := range amiss {
			l := append(slices.Clone(fine[:k]), first.o)
			want(t, v, l, errorAt(first.code, k))
			for _, second := range amiss {
				want(t, v, append(slices.Clone(l), second.o), errorAt(first.code, k))
			}
			want(t, v, append(slices.Clone(l), fine...), errorAt(first.code, k))
		}
	}
	want(t, v, fine, `{"a":[1],"b":2,"f":2}`)
}

// P9.1: as big as a value may be it is told, but not bigger, once each operation is done.
func TestLarge(t *testing.T) {
	large := func(i int) any { return errorAt(api.ErrLarge, i) }
	one := digits("1")
	just := long(api.MaxSize)
	fewer := long(api.MaxSize - 1)
	at := func(op int, path ...string) api.Op { return api.Op{Op: op, Path: path, V: one} }
	want(t, fewer, []api.Op{at(api.Add, "-")}, show.Show(just))
	want(t, fewer, []api.Op{at(api.Add, "-"), at(api.Add, "-")}, large(1))
	want(t, just, []api.Op{at(api.Add, "0")}, large(0))
	want(t, just, []api.Op{at(api.Replace, "0")}, show.Show(just))
	want(t, just, []api.Op{at(api.Replace, "0"), {Op: api.Replace, Path: names("0"), V: array(one)}}, large(1))
	want(t, just, []api.Op{{Op: api.Test, V: just}, at(api.Remove, "0"), at(api.Add, "0")}, show.Show(just))
	want(t, just, []api.Op{{Op: api.Copy, Path: names("-"), From: names("0")}}, large(0))
	want(t, fewer, []api.Op{{Op: api.Copy, Path: names("-"), From: names("0")}}, show.Show(just))
	want(t, just, []api.Op{{Op: api.Move, Path: names("-"), From: names("0")}}, show.Show(just))
	want(t, just, []api.Op{{Op: api.Copy, Path: names("5"), From: names()}}, large(0))
	// The value put in counts as a whole, and what it is put in the place of doesn't.
	want(t, array(), []api.Op{{Op: api.Add, V: just}}, show.Show(just))
	want(t, array(), []api.Op{{Op: api.Replace, V: just}}, show.Show(just))
	want(t, just, []api.Op{{Op: api.Replace, V: fewer}}, show.Show(fewer))
	want(t, array(), []api.Op{{Op: api.Add, V: long(api.MaxSize + 1)}}, large(0))
	want(t, array(), []api.Op{{Op: api.Replace, V: long(api.MaxSize + 1)}}, large(0))
	want(t, array(), []api.Op{{Op: api.Add, Path: names("0"), V: fewer}}, show.Show(array(fewer)))
	want(t, array(), []api.Op{{Op: api.Add, Path: names("0"), V: just}}, large(0))
	want(t, object(pair("a", just)), []api.Op{{Op: api.Add, Path: names("a"), V: fewer}}, show.Show(object(pair("a", fewer))))
	// Members' values count as elements do, wherever they are.
	half := object(pair("a", long(1000)), pair("b", array(long(998))))
	want(t, half, []api.Op{{Op: api.Add, Path: names("c"), V: long(1000)}}, show.Show(object(append(slices.Clone(half.M), pair("c", long(1000)))...)))
	want(t, half, []api.Op{{Op: api.Add, Path: names("c"), V: long(1001)}}, large(0))
	want(t, half, []api.Op{{Op: api.Copy, Path: names("b", "0", "0"), From: names("b")}}, show.Show(object(half.M[0], pair("b", array(array(append([]api.Value{half.M[1].V}, half.M[1].V.L[0].L...)...))))))
	want(t, half, []api.Op{{Op: api.Copy, Path: names("b", "1"), From: names("b")}, {Op: api.Copy, Path: names("b", "1"), From: names()}}, large(1))
	// What was too big from the start is so behind each operation, if not made smaller by it.
	more := long(api.MaxSize + 1)
	want(t, more, []api.Op{{Op: api.Test, V: more}}, large(0))
	want(t, more, []api.Op{{Op: api.Test, Path: names("0"), V: one}}, large(0))
	want(t, more, []api.Op{{Op: api.Move}}, large(0))
	want(t, more, []api.Op{{Op: api.Copy}}, large(0))
	want(t, more, []api.Op{{Op: api.Move, Path: names("0"), From: names("1")}}, large(0))
	want(t, more, []api.Op{at(api.Replace, "0")}, large(0))
	want(t, more, []api.Op{at(api.Remove, "0")}, show.Show(just))
	want(t, array(more), []api.Op{at(api.Remove, "0", "0")}, large(0))
	want(t, array(more), []api.Op{at(api.Replace, "0")}, show.Show(array(one)))
	want(t, more, []api.Op{{Op: api.Move, From: names("7")}}, "1")
	want(t, more, []api.Op{{Op: api.Copy, From: names("7")}}, "1")
	// Its own error is told ahead of that.
	want(t, more, []api.Op{{Op: api.Test, V: just}}, errorAt(api.ErrTest, 0))
	want(t, more, []api.Op{at(api.Remove, "3000")}, errorAt(api.ErrNone, 0))
	want(t, more, []api.Op{at(api.Remove)}, errorAt(api.ErrRoot, 0))
	want(t, more, []api.Op{{Op: api.Move, Path: names("0")}}, errorAt(api.ErrInto, 0))
	// What would be smaller later on isn't waited for.
	want(t, just, []api.Op{at(api.Add, "-"), at(api.Remove, "0")}, large(0))
}

// P9.1: as deep as a value may be it is told, but not deeper, once each operation is done.
func TestDepth(t *testing.T) {
	tooDeep := func(i int) any { return errorAt(api.ErrDepth, i) }
	just, more := deep(api.MaxDepth), deep(api.MaxDepth+1)
	bottom := slices.Repeat([]string{"0"}, api.MaxDepth)
	above := bottom[1:]
	want(t, array(), []api.Op{{Op: api.Add, V: just}}, show.Show(just))
	want(t, array(), []api.Op{{Op: api.Add, V: more}}, tooDeep(0))
	want(t, array(), []api.Op{{Op: api.Replace, V: just}}, show.Show(just))
	want(t, array(), []api.Op{{Op: api.Replace, V: more}}, tooDeep(0))
	want(t, array(), []api.Op{{Op: api.Add, Path: names("0"), V: deep(api.MaxDepth - 1)}}, show.Show(just))
	want(t, array(), []api.Op{{Op: api.Add, Path: names("0"), V: just}}, tooDeep(0))
	want(t, object(), []api.Op{{Op: api.Add, Path: names("0"), V: just}}, tooDeep(0))
	want(t, object(), []api.Op{{Op: api.Add, Path: names("0"), V: more.L[0].L[0]}}, `{"0":`+strings.Repeat("[", 31)+strings.Repeat("]", 31)+`}`)
	// What is neither Array nor Object is at no level of its own.
	for _, x := range []string{`null`, `true`, `1`, `"a"`} {
		want(t, just, []api.Op{{Op: api.Add, Path: bottom, V: of(t, x)}}, strings.Repeat("[", 32)+x+strings.Repeat("]", 32))
	}
	for _, x := range []string{`[]`, `{}`, `[1]`, `{"a":1}`} {
		want(t, just, []api.Op{{Op: api.Add, Path: bottom, V: of(t, x)}}, tooDeep(0))
	}
	want(t, just, []api.Op{{Op: api.Replace, Path: above, V: of(t, `{}`)}}, strings.Repeat("[", 31)+`{}`+strings.Repeat("]", 31))
	want(t, just, []api.Op{{Op: api.Replace, Path: above, V: of(t, `{"a":[]}`)}}, tooDeep(0))
	// By a move, and by a copy.
	v, less := object(pair("a", deep(16)), pair("b", deep(16))), object(pair("a", deep(16)), pair("b", deep(15)))
	joined := `"b":` + show.Show(deep(31)) + `}`
	to := func(k int) []string { return append(names("b"), bottom[:k]...) }
	want(t, v, []api.Op{{Op: api.Move, Path: to(16), From: names("a")}}, tooDeep(0))
	want(t, v, []api.Op{{Op: api.Test, V: v}, {Op: api.Copy, Path: to(16), From: names("a")}}, tooDeep(1))
	want(t, less, []api.Op{{Op: api.Move, Path: to(15), From: names("a")}}, `{`+joined)
	want(t, less, []api.Op{{Op: api.Copy, Path: to(15), From: names("a")}}, `{"a":`+show.Show(deep(16))+`,`+joined)
	// What was too deep from the start is so behind each operation, if not made less deep by it.
	want(t, more, []api.Op{{Op: api.Test, V: more}}, tooDeep(0))
	want(t, more, []api.Op{{Op: api.Move}}, tooDeep(0))
	want(t, more, []api.Op{{Op: api.Remove, Path: bottom}}, show.Show(just))
	want(t, more, []api.Op{{Op: api.Add, Path: names("-"), V: digits("1")}}, tooDeep(0))
	want(t, more, []api.Op{{Op: api.Move, From: names("0")}}, show.Show(just))
	// Its own error is told ahead of that; and ErrLarge ahead of ErrDepth.
	want(t, more, []api.Op{{Op: api.Test, V: just}}, errorAt(api.ErrTest, 0))
	want(t, more, []api.Op{{Op: api.Remove}}, errorAt(api.ErrRoot, 0))
	want(t, more, []api.Op{{Op: api.Add, Path: names("-"), V: long(api.MaxSize)}}, errorAt(api.ErrLarge, 0))
	want(t, array(), []api.Op{{Op: api.Add, V: array(more, long(api.MaxSize))}}, errorAt(api.ErrLarge, 0))
	want(t, long(api.MaxSize-32), []api.Op{{Op: api.Add, Path: names("0"), V: just}}, tooDeep(0))
	want(t, long(api.MaxSize-31), []api.Op{{Op: api.Add, Path: names("0"), V: just}}, errorAt(api.ErrLarge, 0))
	// An operation ahead of it is what is told, though it be less.
	want(t, array(), []api.Op{{Op: api.Add, V: more}, {Op: api.Add, V: long(api.MaxSize + 1)}}, tooDeep(0))
}

// P9.1: what an operation doesn't have is passed over.
func TestWhatMeansNothing(t *testing.T) {
	v, one := of(t, `{"a":1,"b":2}`), of(t, `1`)
	for _, from := range [][]string{nil, {}, {"x"}, {"a"}, {"b", "c"}} {
		want(t, v, []api.Op{{Op: api.Add, Path: names("c"), From: from, V: one}}, `{"a":1,"b":2,"c":1}`)
		want(t, v, []api.Op{{Op: api.Remove, Path: names("b"), From: from}}, `{"a":1}`)
		want(t, v, []api.Op{{Op: api.Replace, Path: names("b"), From: from, V: one}}, `{"a":1,"b":1}`)
		want(t, v, []api.Op{{Op: api.Test, Path: names("a"), From: from, V: one}}, `{"a":1,"b":2}`)
	}
	for _, x := range []string{`null`, `2`, `[1]`, `{"a":1,"b":2}`} {
		want(t, v, []api.Op{{Op: api.Remove, Path: names("b"), V: of(t, x)}}, `{"a":1}`)
		want(t, v, []api.Op{{Op: api.Move, Path: names("c"), From: names("b"), V: of(t, x)}}, `{"a":1,"c":2}`)
		want(t, v, []api.Op{{Op: api.Copy, Path: names("c"), From: names("b"), V: of(t, x)}}, `{"a":1,"b":2,"c":2}`)
	}
	want(t, v, []api.Op{{Op: api.Remove, Path: names("b"), V: long(api.MaxSize + 1)}}, `{"a":1}`)
	want(t, v, []api.Op{{Op: api.Test, Path: names("b"), V: deep(api.MaxDepth + 1)}}, errorAt(api.ErrTest, 0))
}

// P9.1: RFC 6902's own examples (its appendix A), but for those that are no patch.
func TestExamples(t *testing.T) {
	wantOf(t, `{"foo":"bar"}`, `{"baz":"qux","foo":"bar"}`, add("/baz", `"qux"`))
	wantOf(t, `{"foo":["bar","baz"]}`, `{"foo":["bar","qux","baz"]}`, add("/foo/1", `"qux"`))
	wantOf(t, `{"baz":"qux","foo":"bar"}`, `{"foo":"bar"}`, remove("/baz"))
	wantOf(t, `{"foo":["bar","qux","baz"]}`, `{"foo":["bar","baz"]}`, remove("/foo/1"))
	wantOf(t, `{"baz":"qux","foo":"bar"}`, `{"baz":"boo","foo":"bar"}`, replace("/baz", `"boo"`))
	wantOf(t, `{"foo":{"bar":"baz","waldo":"fred"},"qux":{"corge":"grault"}}`, `{"foo":{"bar":"baz"},"qux":{"corge":"grault","thud":"fred"}}`, move("/foo/waldo", "/qux/thud"))
	wantOf(t, `{"foo":["all","grass","cows","eat"]}`, `{"foo":["all","cows","eat","grass"]}`, move("/foo/1", "/foo/3"))
	wantOf(t, `{"baz":"qux","foo":["a",2,"c"]}`, `{"baz":"qux","foo":["a",2,"c"]}`, testThat("/baz", `"qux"`), testThat("/foo/1", `2`))
	wantOf(t, `{"baz":"qux"}`, errorAt(api.ErrTest, 0), testThat("/baz", `"bar"`))
	wantOf(t, `{"foo":"bar"}`, `{"child":{"grandchild":{}},"foo":"bar"}`, add("/child", `{"grandchild":{}}`))
	wantOf(t, `{"foo":"bar"}`, errorAt(api.ErrNone, 0), add("/baz/bat", `"qux"`))
	wantOf(t, `{"/":9,"~1":10}`, `{"/":9,"~1":1e1}`, testThat("/~01", `10`))
	wantOf(t, `{"/":9,"~1":10}`, errorAt(api.ErrTest, 0), testThat("/~01", `"10"`))
	wantOf(t, `{"foo":["bar"]}`, `{"foo":["bar",["abc","def"]]}`, add("/foo/-", `["abc","def"]`))
	// The first of its section 5, and that of its section 3.
	wantOf(t, `{"a":{"b":{"c":"foo"}}}`, errorAt(api.ErrTest, 1), replace("/a/b/c", `42`), testThat("/a/b/c", `"C"`))
	wantOf(t, `{"a":{"b":{"c":"foo","d":1}}}`, errorAt(api.ErrTest, 0), testThat("/a/b/c", `"f"`), remove("/a/b/c"))
	wantOf(t, `{"a":{"b":{"c":"foo"}}}`, `{"a":{"b":{"d":["foo","bar"],"e":["foo","bar"]}}}`, testThat("/a/b/c", `"foo"`), remove("/a/b/c"), add("/a/b/c", `["foo","bar"]`), replace("/a/b/c", `["foo","bar"]`), move("/a/b/c", "/a/b/d"), copyTo("/a/b/d", "/a/b/e"))
}

// tree is a value that is changed where it stands.
type tree struct {
	plain    api.Value
	elements []*tree
	members  map[string]*tree
}

func treeOf(v api.Value) *tree {
	n := &tree{plain: v}
	n.plain.L, n.plain.M = nil, nil
	for _, x := range v.L {
		n.elements = append(n.elements, treeOf(x))
	}
	if v.Kind == api.Object {
		n.members = map[string]*tree{}
	}
	for _, m := range v.M {
		n.members[m.Key] = treeOf(m.V)
	}
	return n
}

func (n *tree) value() api.Value {
	v := n.plain
	for _, x := range n.elements {
		v.L = append(v.L, x.value())
	}
	for k, x := range n.members {
		v.M = append(v.M, pair(k, x.value()))
	}
	slices.SortFunc(v.M, func(a, b api.Member) int { return strings.Compare(a.Key, b.Key) })
	return v
}

// measure is a tree's size, and how many levels it has.
func (n *tree) measure() (int, int) {
	size, levels := 1, 0
	within := slices.Clone(n.elements)
	for _, x := range n.members {
		within = append(within, x)
	}
	for _, x := range within {
		s, l := x.measure()
		size, levels = size+s, max(levels, l)
	}
	if n.plain.Kind >= api.Array {
		levels++
	}
	return size, levels
}

// spotOf is the place that a name means among so many, or -1.
func spotOf(name string, many int) int {
	for i := range many {
		if strconv.Itoa(i) == name {
			return i
		}
	}
	return -1
}

// at is the tree within n, or nil.
func (n *tree) at(l []string) *tree {
	for _, name := range l {
		in := n.members[name]
		if i := spotOf(name, len(n.elements)); i >= 0 {
			in = n.elements[i]
		}
		if in == nil {
			return nil
		}
		n = in
	}
	return n
}

// put puts x in, and tells the tree then: nil, if it can't be there.
func (n *tree) put(l []string, x *tree) *tree {
	if len(l) == 0 {
		return x
	}
	in, name := n.at(l[:len(l)-1]), l[len(l)-1]
	switch {
	case in == nil || in.plain.Kind < api.Array:
		return nil
	case in.plain.Kind == api.Object:
		in.members[name] = x
		return n
	case name == "-":
		name = strconv.Itoa(len(in.elements))
	}
	i := spotOf(name, len(in.elements)+1)
	if i < 0 {
		return nil
	}
	in.elements = append(in.elements, nil)
	copy(in.elements[i+1:], in.elements[i:])
	in.elements[i] = x
	return n
}

// take takes out what is there: something is.
func (n *tree) take(l []string) {
	in, name := n.at(l[:len(l)-1]), l[len(l)-1]
	if in.plain.Kind == api.Object {
		delete(in.members, name)
		return
	}
	i := spotOf(name, len(in.elements))
	in.elements = append(in.elements[:i], in.elements[i+1:]...)
}

// step does one operation to a tree, as RFC 6902's words have it, and tells its error, or 0.
func (n *tree) step(o api.Op) (*tree, api.Code) {
	if o.Op == api.Move && strings.HasPrefix(ptr.Show(o.Path), ptr.Show(o.From)+"/") {
		return nil, api.ErrInto
	}
	if o.Op == api.Remove && len(o.Path) == 0 {
		return nil, api.ErrRoot
	}
	place := o.Path
	if o.Op == api.Move || o.Op == api.Copy {
		place = o.From
	}
	there := n.at(place)
	if there == nil && o.Op != api.Add {
		return nil, api.ErrNone
	}
	x := treeOf(o.V)
	switch o.Op {
	case api.Test:
		if show.Show(there.value()) != show.Show(o.V) {
			return nil, api.ErrTest
		}
		return n, 0
	case api.Remove:
		n.take(place)
		return n, 0
	case api.Replace:
		*there = *x
		return n, 0
	case api.Copy:
		x = treeOf(there.value())
	case api.Move:
		x = there
		if len(place) > 0 {
			n.take(place)
		}
	}
	if n = n.put(o.Path, x); n == nil {
		return nil, api.ErrNone
	}
	return n, 0
}

// oracle is what a patch comes to: a text, or a Spot.
func oracle(v api.Value, l []api.Op) any {
	n := treeOf(v)
	for i, o := range l {
		next, code := n.step(o)
		if code == 0 {
			switch size, levels := next.measure(); {
			case size > 3000:
				code = api.ErrLarge
			case levels > 32:
				code = api.ErrDepth
			}
		}
		if code != 0 {
			return errorAt(code, i)
		}
		n = next
	}
	return show.Show(n.value())
}

// keys are those that random values and pointers have; they rise.
func keys() []string { return []string{"", "-", "/", "0", "00", "1", "2", "3", "a", "~", "~1"} }

// randomValue may be; keys are often such as mean an element, too.
func randomValue(r *rand.Rand, levels int) api.Value {
	kinds := []int{api.Null, api.Bool, api.Number, api.String, api.Array, api.Object, api.Array, api.Object}
	if levels <= 0 {
		kinds = kinds[:4]
	}
	v := api.Value{Kind: kinds[r.Intn(len(kinds))]}
	switch v.Kind {
	case api.Bool:
		v.B = r.Intn(2) == 0
	case api.Number:
		v.N = api.Num{Digits: strconv.Itoa(1 + r.Intn(9))}
	case api.String:
		v.S = strconv.Itoa(r.Intn(9))
	case api.Array:
		// A list often has room behind it, which isn't its own.
		v.L = make([]api.Value, 0, r.Intn(5))
		for range r.Intn(4) {
			v.L = append(v.L, randomValue(r, levels-1))
		}
	case api.Object:
		v.M = make([]api.Member, 0, r.Intn(5))
		for _, k := range keys() {
			if r.Intn(4) == 0 {
				v.M = append(v.M, pair(k, randomValue(r, levels-1)))
			}
		}
	}
	return v
}

// all tells each list of names into v.
func all(v api.Value) [][]string {
	l := [][]string{{}}
	put := func(name string, x api.Value) {
		for _, on := range all(x) {
			l = append(l, append([]string{name}, on...))
		}
	}
	for i, x := range v.L {
		put(strconv.Itoa(i), x)
	}
	for _, m := range v.M {
		put(m.Key, m.V)
	}
	return l
}

// randomPlace is a pointer to something in a value, or close to it.
func randomPlace(r *rand.Rand, ways [][]string, close int) []string {
	l := slices.Clone(ways[r.Intn(len(ways))])
	if r.Intn(close) == 0 {
		l = append(l, keys()[r.Intn(len(keys()))])
	}
	if len(l) > 0 && r.Intn(6*close) == 0 {
		l[r.Intn(len(l))] = keys()[r.Intn(len(keys()))]
	}
	return l
}

// randomOp is an operation that can often be done to a value.
func randomOp(r *rand.Rand, v api.Value) api.Op {
	ways := all(v)
	o := api.Op{Op: 1 + r.Intn(6)}
	switch o.Op {
	case api.Add:
		o.Path, o.V = randomPlace(r, ways, 2), randomValue(r, r.Intn(4))
	case api.Remove:
		o.Path = randomPlace(r, ways, 40)
		if len(o.Path) == 0 && r.Intn(10) > 0 {
			o.Path = ways[len(ways)-1]
		}
	case api.Replace:
		o.Path, o.V = randomPlace(r, ways, 40), randomValue(r, r.Intn(4))
	case api.Move, api.Copy:
		o.From, o.Path = randomPlace(r, ways, 40), randomPlace(r, ways, 2)
		if o.Op == api.Move && len(o.From) == 0 && r.Intn(10) > 0 {
			o.From = ways[len(ways)-1]
		}
	case api.Test:
		o.Path = randomPlace(r, ways, 40)
		if x, err := ptr.Get(v, o.Path); err == nil {
			o.V = clone(x)
		}
		if r.Intn(20) == 0 {
			o.V = randomValue(r, 2)
		}
	}
	return o
}

// randomPatch is one that can often be done: what is behind each operation is what the next one is made for.
func randomPatch(r *rand.Rand, v api.Value, many int) []api.Op {
	var l []api.Op
	n := treeOf(v)
	for range many {
		now := n.value()
		o := randomOp(r, now)
		l = append(l, o)
		next, code := n.step(o)
		if code != 0 || value.Size(next.value()) > 300 {
			return l
		}
		n = next
	}
	return l
}

// P9.1: random patches, against the oracle; P9.2: nothing is changed.
func TestRandom(t *testing.T) {
	r := rand.New(rand.NewSource(1))
	told := map[any]int{}
	for i := range 20000 {
		v := randomValue(r, i%5)
		l := randomPatch(r, v, r.Intn(12))
		was, were, result := clone(v), cloneOps(l), oracle(v, l)
		want(t, v, l, result)
		if !reflect.DeepEqual(v, was) && show.Show(v) != show.Show(was) || !slices.EqualFunc(l, were, sameOp) {
			t.Fatalf("changed: %s, %s; was %s, %s", show.Show(v), shown(l), show.Show(was), shown(were))
		}
		if spot, ok := result.(api.Spot); ok {
			told[spot.Code]++
		} else {
			told[min(len(l), 8)]++
		}
	}
	for k := range 9 {
		if told[k] < 100 {
			t.Error("too few of", k, "operations:", told[k])
		}
	}
	for _, code := range []api.Code{api.ErrNone, api.ErrRoot, api.ErrTest, api.ErrInto} {
		if told[code] < 100 {
			t.Error("too few of", code, told[code])
		}
	}
}

// sameOp tells whether both are one operation, in all that they have.
func sameOp(a, b api.Op) bool {
	return a.Op == b.Op && slices.Equal(a.Path, b.Path) && slices.Equal(a.From, b.From) && show.Show(a.V) == show.Show(b.V)
}

// P9.1: one operation of each kind, with all pointers of chosen names, of small values.
func TestAllShort(t *testing.T) {
	var places [][]string
	var on func(l []string)
	on = func(l []string) {
		places = append(places, l)
		for _, name := range []string{"", "-", "0", "1", "00"} {
			if len(l) < 2 {
				on(append(slices.Clone(l), name))
			}
		}
	}
	on([]string{})
	for _, s := range []string{`1`, `[]`, `{}`, `[1]`, `[[],2]`, `[{},[3,4]]`, `{"0":[1],"1":2}`, `{"":{"":1,"-":{}},"-":[[]],"00":{"1":1}}`, `[[1,2],{"0":3}]`} {
		v := of(t, s)
		for _, path := range places {
			for op := api.Add; op <= api.Test; op++ {
				if op == api.Move || op == api.Copy {
					continue
				}
				for _, x := range []string{`1`, `[]`, `{"":1,"-":{}}`} {
					l := []api.Op{{Op: op, Path: path, V: of(t, x)}}
					want(t, v, l, oracle(v, l))
				}
			}
			for _, from := range places {
				for op := api.Move; op <= api.Copy; op++ {
					l := []api.Op{{Op: op, Path: path, From: from}}
					want(t, v, l, oracle(v, l))
				}
			}
		}
	}
}

// P9.1: Add, Remove and Replace are layer 7's, and their errors its own.
func TestAsLayerSeven(t *testing.T) {
	r := rand.New(rand.NewSource(2))
	for i := range 3000 {
		v, x := randomValue(r, i%5), randomValue(r, r.Intn(3))
		path := randomPlace(r, all(v), 2)
		for op := api.Add; op <= api.Replace; op++ {
			var told api.Value
			var bad error
			switch op {
			case api.Add:
				told, bad = edit.Add(v, path, x)
			case api.Remove:
				told, bad = edit.Remove(v, path)
			case api.Replace:
				told, bad = edit.Replace(v, path, x)
			}
			got, err := Apply(v, []api.Op{{Op: op, Path: path, V: x}})
			switch {
			case bad == nil && (err != nil || !value.Same(got, told)):
				t.Fatalf("%d of %s: %s, %v, want %s", op, show.Show(v), show.Show(got), err, show.Show(told))
			case bad != nil && !errors.Is(err, bad):
				t.Fatalf("%d of %s: %s, %v, want %v", op, show.Show(v), show.Show(got), err, bad)
			}
		}
	}
}

// P9.3: patches one behind the other are one patch.
func TestBehindEachOther(t *testing.T) {
	r := rand.New(rand.NewSource(3))
	for i := range 3000 {
		v := randomValue(r, i%5)
		l := randomPatch(r, v, 1+r.Intn(10))
		whole, bad := Apply(v, l)
		for k := range len(l) + 1 {
			first, err := Apply(v, l[:k])
			at := 0
			if err == nil {
				first, err = Apply(first, l[k:])
				at = k
			}
			if (err == nil) != (bad == nil) || show.Show(first) != show.Show(whole) {
				t.Fatalf("%s, %s, cut at %d: %s, %v, want %s, %v", show.Show(v), shown(l), k, show.Show(first), err, show.Show(whole), bad)
			}
			if bad == nil {
				continue
			}
			one, two := bad.(*api.Spot), err.(*api.Spot)
			if one.At != two.At+at || one.Code != two.Code {
				t.Fatalf("%s, %s, cut at %d: %v, want %v", show.Show(v), shown(l), k, err, bad)
			}
		}
	}
	// The limits hold of each of them.
	just := long(api.MaxSize)
	for k := range 3 {
		l := []api.Op{{Op: api.Test, V: just}, {Op: api.Add, Path: names("-"), V: digits("1")}, {Op: api.Remove, Path: names("0")}}
		got, err := Apply(just, l[:k])
		if k == 2 {
			want(t, just, l[:k], errorAt(api.ErrLarge, 1))
			continue
		}
		if err != nil {
			t.Fatal(err)
		}
		want(t, got, l[k:], errorAt(api.ErrLarge, 1-k))
	}
}

// P9.1: what is moved forth is moved back; what is copied passes the test of it; what was there comes back.
func TestForthAndBack(t *testing.T) {
	r := rand.New(rand.NewSource(4))
	moved, copied := 0, 0
	for i := range 20000 {
		v := object(pair("k", randomValue(r, 1+i%4)), pair("z", array()))
		from := append(names("k"), randomPlace(r, all(v.M[0].V), 40)...)
		x, err := ptr.Get(v, from)
		if err != nil {
			continue
		}
		for _, to := range [][]string{{"a"}, {"y"}, {"z", "0"}, {"z", "-"}} {
			found := to
			if to[len(to)-1] == "-" {
				found = names("z", "0")
			}
			want(t, v, []api.Op{{Op: api.Move, Path: to, From: from}, {Op: api.Test, Path: found, V: x}, {Op: api.Move, Path: from, From: found}}, show.Show(v))
			want(t, v, []api.Op{{Op: api.Copy, Path: to, From: from}, {Op: api.Test, Path: found, V: x}, {Op: api.Test, Path: from, V: x}, {Op: api.Remove, Path: found}}, show.Show(v))
			moved, copied = moved+1, copied+1
		}
	}
	if moved < 10000 || copied < 10000 {
		t.Error("too few:", moved, copied)
	}
}

// P9.2: whatever is done behind it, each value stays as it was told.
func TestEachStays(t *testing.T) {
	r := rand.New(rand.NewSource(5))
	for i := range 150 {
		v := randomValue(r, 2+i%3)
		kept, were := []api.Value{v}, []api.Value{clone(v)}
		for range 30 {
			from := kept[r.Intn(len(kept))]
			l := randomPatch(r, from, 1+r.Intn(5))
			for k := range l {
				// What is put in is at times a piece of what was told before.
				if x := kept[r.Intn(len(kept))]; l[k].Op <= api.Replace && value.Size(x) < 50 {
					l[k].V = x
				}
			}
			opsWere := cloneOps(l)
			got, err := Apply(from, l)
			if !slices.EqualFunc(l, opsWere, sameOp) {
				t.Fatalf("changed: %s, were %s", shown(l), shown(opsWere))
			}
			if err == nil {
				kept, were = append(kept, got), append(were, clone(got))
			}
			for k := range kept {
				if !reflect.DeepEqual(clone(kept[k]), clone(were[k])) {
					t.Fatalf("changed: %s, was %s", show.Show(kept[k]), show.Show(were[k]))
				}
			}
		}
	}
}

// P9.2: what stands behind a list that is handed in isn't changed either.
func TestBehindLists(t *testing.T) {
	room := func() []api.Value { return []api.Value{text("a"), text("b"), text("behind"), text("further")} }
	members := func() []api.Member {
		return []api.Member{pair("0", text("a")), pair("1", text("b")), pair("2", text("behind")), pair("3", text("further"))}
	}
	paths := func() []string { return []string{"0", "1", "2", "-"} }
	for op := api.Add; op <= api.Test; op++ {
		for from := range 3 {
			for to := range 4 {
				elements, pairs, at, of := room(), members(), paths(), paths()
				o := api.Op{Op: op, Path: at[to : to+1], From: of[from : from+1], V: text("x")}
				l := []api.Op{o, o, {Op: 7}, {Op: 8}}
				Apply(array(elements[:2]...), l[:1])
				Apply(api.Value{Kind: api.Array, L: elements[:2]}, l[:2])
				Apply(api.Value{Kind: api.Object, M: pairs[:2]}, l[:2])
				o.V = api.Value{Kind: api.Array, L: elements[:2]}
				Apply(array(), []api.Op{{Op: api.Add, V: o.V}, o, {Op: api.Add, Path: names("0"), V: text("y")}})
				if !reflect.DeepEqual(elements, room()) || !reflect.DeepEqual(pairs, members()) || !slices.Equal(at, paths()) || !slices.Equal(of, paths()) || l[2].Op != 7 || l[3].Op != 8 {
					t.Errorf("%d from %d to %d: %+v, %+v, %q, %q", op, from, to, elements, pairs, at, of)
				}
			}
		}
	}
}

// R2: nothing is kept from call to call.
func TestNothingKept(t *testing.T) {
	v := of(t, `{"a":{"b":1}}`)
	l := ops(t, patchOf(testThat("/a/b", `1`), move("/a/b", "/c"), add("/d", `[2]`)))
	got, err := Apply(v, l)
	if err != nil || show.Show(got) != `{"a":{},"c":1,"d":[2]}` {
		t.Error(show.Show(got), err)
	}
	l[1].Path[0], l[2].Path[0], l[0] = "x", "y", api.Op{}
	if show.Show(got) != `{"a":{},"c":1,"d":[2]}` {
		t.Error("its names changed behind it:", show.Show(got))
	}
	wantOf(t, `{"a":{"b":1}}`, `{"a":{},"c":1,"d":[2]}`, testThat("/a/b", `1`), move("/a/b", "/c"), add("/d", `[2]`))
	// Errors are new ones each time.
	bad := []api.Op{{Op: api.Remove}}
	_, err = Apply(v, bad)
	one := err.(*api.Spot)
	*one = api.Spot{At: 77, Code: api.ErrCycle}
	want(t, v, bad, errorAt(api.ErrRoot, 0))
	if _, err := Apply(v, bad); err == error(one) || !errors.Is(err, api.ErrRoot) {
		t.Error("the same error again:", err)
	}
}

// P9.1: there may be many operations, more than a patch's text may have.
func TestMany(t *testing.T) {
	for _, many := range []int{99, 100, 101, 1000} {
		var l []api.Op
		for range many {
			l = append(l, api.Op{Op: api.Add, Path: names("-"), V: digits("1")})
		}
		want(t, array(), l, show.Show(long(many+1)))
		want(t, array(), append(slices.Clone(l), api.Op{Op: api.Remove}), errorAt(api.ErrRoot, many))
		for range many {
			l = append(l, api.Op{Op: api.Move, Path: names("-"), From: names("0")}, api.Op{Op: api.Remove, Path: names("0")})
		}
		want(t, array(), l, `[]`)
	}
	l := slices.Repeat([]api.Op{{Op: api.Add, Path: names("0"), V: digits("1")}}, api.MaxSize)
	want(t, array(), l, errorAt(api.ErrLarge, api.MaxSize-1))
	// Twice as big each time: 2, 4, 8.
	l = slices.Repeat([]api.Op{{Op: api.Copy, Path: names("-"), From: names()}}, 100)
	want(t, array(digits("1")), l, errorAt(api.ErrLarge, 10))
	want(t, array(), l, errorAt(api.ErrLarge, 11))
	// Deeper by one each time.
	l = slices.Repeat([]api.Op{{Op: api.Copy, Path: names("a"), From: names()}}, 100)
	want(t, object(), l, errorAt(api.ErrDepth, 31))
	// At once back and forth.
	l = slices.Repeat([]api.Op{{Op: api.Move, Path: names("b"), From: names("a")}, {Op: api.Move, Path: names("a"), From: names("b")}}, 50000)
	want(t, of(t, `{"a":[1]}`), l, `{"a":[1]}`)
	want(t, of(t, `{"a":[1]}`), l[:99999], `{"b":[1]}`)
	want(t, of(t, `{"a":[1]}`), append(slices.Clone(l[:99999]), l[1], l[1]), errorAt(api.ErrNone, 100000))
}

// P1: down to the document's bound of levels, and with pointers as long.
func TestFarDown(t *testing.T) {
	const levels = 1 << 16
	v := deep(levels)
	down := slices.Repeat([]string{"0"}, levels-1)
	want(t, v, []api.Op{{Op: api.Replace, V: digits("1")}}, `1`)
	want(t, v, []api.Op{{Op: api.Test, V: v}}, errorAt(api.ErrLarge, 0))
	want(t, v, []api.Op{{Op: api.Test, V: deep(levels - 1)}}, errorAt(api.ErrTest, 0))
	want(t, v, []api.Op{{Op: api.Test, Path: down, V: array()}}, errorAt(api.ErrLarge, 0))
	want(t, v, []api.Op{{Op: api.Test, Path: down, V: digits("1")}}, errorAt(api.ErrTest, 0))
	want(t, v, []api.Op{{Op: api.Move, From: down}}, `[]`)
	want(t, v, []api.Op{{Op: api.Copy, From: down[:levels-32]}}, show.Show(deep(32)))
	want(t, v, []api.Op{{Op: api.Copy, From: down[:levels-33]}}, errorAt(api.ErrDepth, 0))
	want(t, v, []api.Op{{Op: api.Remove, Path: down[:31]}}, show.Show(deep(31)))
	want(t, v, []api.Op{{Op: api.Remove, Path: down[:32]}}, show.Show(deep(32)))
	want(t, v, []api.Op{{Op: api.Remove, Path: down[:33]}}, errorAt(api.ErrDepth, 0))
	far := slices.Repeat([]string{"0"}, 1<<20)
	for op := api.Add; op <= api.Test; op++ {
		code := api.ErrNone
		if op == api.Move {
			code = api.ErrInto
		}
		want(t, v, []api.Op{{Op: op, Path: far, From: down}}, errorAt(code, 0))
		want(t, v, []api.Op{{Op: api.Copy, Path: names("0"), From: far}}, errorAt(api.ErrNone, 0))
		want(t, v, []api.Op{{Op: api.Move, Path: names("0"), From: far}}, errorAt(api.ErrNone, 0))
		want(t, v, []api.Op{{Op: api.Move, Path: far, From: far}}, errorAt(api.ErrNone, 0))
	}
}

// P1: no call panics at an operation that is none, though nothing is promised of it.
func TestNoSuchOperation(t *testing.T) {
	for _, op := range []int{0, 7, 8, -1, -6, 100, 1 << 40, -1 << 62} {
		for _, l := range [][]string{nil, {}, {"a"}, {"a", "0"}, {"x", "y"}} {
			Apply(of(t, `{"a":[1]}`), []api.Op{{Op: op, Path: l, From: l, V: text("x")}, {Op: op}})
		}
	}
}

// R2: what else is done at the same time doesn't matter.
func TestAtOnce(t *testing.T) {
	r := rand.New(rand.NewSource(6))
	v := array()
	for range 20 {
		v.L = append(v.L, randomValue(r, 3))
	}
	before := clone(v)
	var patches [][]api.Op
	var told []any
	for range 100 {
		l := randomPatch(r, v, 6)
		patches, told = append(patches, l), append(told, oracle(v, l))
	}
	var workers sync.WaitGroup
	for k := range 8 {
		workers.Go(func() {
			for i, l := range patches {
				if i%8 == k || i%3 == 0 {
					want(t, v, l, told[i])
				}
			}
		})
	}
	workers.Wait()
	if !reflect.DeepEqual(clone(v), clone(before)) {
		t.Error("changed")
	}
}

// P9.1, P9.2, P9.3: any value, with any patch.
func FuzzApply(f *testing.F) {
	f.Add(`{"a":[1,2]}`, patchOf(move("/a/0", "/b"), copyTo("/b", "/a/-")), 1)
	f.Add(`[1,[2]]`, patchOf(testThat("/1", `[2.0]`), replace("", `{}`), remove("/a")), 2)
	f.Add(`{"b":1}`, patchOf(add("/~01", `null`), move("", "/b")), 0)
	f.Add(`{"b":{}}`, patchOf(copyTo("", "/b/b"), copyTo("", "/b/c"), move("/b/b", "/b"), remove("")), 3)
	f.Fuzz(func(t *testing.T, s, p string, cut int) {
		v, bad := parse.Parse(s)
		text, worse := parse.Parse(p)
		if bad != nil || worse != nil {
			return
		}
		l, worst := patch.Read(text)
		if worst != nil {
			return
		}
		result := oracle(v, l)
		want(t, v, l, result)
		if show.Show(v) != show.Show(of(t, s)) || !slices.EqualFunc(l, ops(t, p), sameOp) {
			t.Errorf("changed: %s, %s", show.Show(v), shown(l))
		}
		if cut < 0 || cut > len(l) {
			return
		}
		if first, err := Apply(v, l[:cut]); err == nil {
			if spot, ok := result.(api.Spot); ok {
				spot.At -= cut
				result = spot
			}
			want(t, first, l[cut:], result)
		}
	})
}
