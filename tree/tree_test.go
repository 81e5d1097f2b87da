package tree_test

import (
	"errors"
	"math/rand"
	"reflect"
	"slices"
	"strconv"
	"strings"
	"sync"
	"testing"

	"doublet/api"
	"doublet/apply"
	"doublet/parse"
	"doublet/patch"
	"doublet/ptr"
	"doublet/show"
	"doublet/tree"
	"doublet/value"
)

func digits(s string) api.Value             { return api.Value{Kind: api.Number, N: api.Num{Digits: s}} }
func text(s string) api.Value               { return api.Value{Kind: api.String, S: s} }
func array(l ...api.Value) api.Value        { return api.Value{Kind: api.Array, L: l} }
func object(l ...api.Member) api.Value      { return api.Value{Kind: api.Object, M: l} }
func pair(k string, v api.Value) api.Member { return api.Member{Key: k, V: v} }

// names make a pointer of texts.
func names(l ...string) []string { return l }

// long is an array of so many values within it, itself counted: its size is n.
func long(n int) api.Value { return array(slices.Repeat([]api.Value{digits("1")}, n-1)...) }

// deep is an array of so many levels.
func deep(levels int) api.Value {
	v := array()
	for range levels - 1 {
		v = array(v)
	}
	return v
}

// of is the value of a text.
func of(t *testing.T, s string) api.Value {
	t.Helper()
	v, err := parse.Parse(s)
	if err != nil {
		t.Fatalf("%.200q is no value: %v", s, err)
	}
	return v
}

// ops are the operations of a patch's text.
func ops(t *testing.T, s string) []api.Op {
	t.Helper()
	l, err := patch.Read(of(t, s))
	if err != nil {
		t.Fatalf("%.200q is no patch: %v", s, err)
	}
	return l
}

// add, remove, replace, move, copyTo and testThat are operations' texts.
func add(path, v string) string { return `{"op":"add","path":"` + path + `","value":` + v + `}` }
func remove(path string) string { return `{"op":"remove","path":"` + path + `"}` }
func replace(path, v string) string {
	return `{"op":"replace","path":"` + path + `","value":` + v + `}`
}
func move(from, path string) string {
	return `{"op":"move","from":"` + from + `","path":"` + path + `"}`
}
func copyTo(from, path string) string {
	return `{"op":"copy","from":"` + from + `","path":"` + path + `"}`
}
func testThat(path, v string) string { return `{"op":"test","path":"` + path + `","value":` + v + `}` }
func patchOf(l ...string) string     { return "[" + strings.Join(l, ",") + "]" }

// shown is a patch's text, for messages.
func shown(l []api.Op) string {
	var b strings.Builder
	for _, o := range l {
		b.WriteString(strconv.Itoa(o.Op) + " " + ptr.Show(o.From) + " " + ptr.Show(o.Path) + " " + show.Show(o.V) + "; ")
	}
	return b.String()
}

// ids tells the Ids of a tree, each ahead of all within it.
func ids(n *tree.Node) []int {
	out := []int{n.Id}
	for _, kid := range n.Kids {
		out = append(out, ids(kid)...)
	}
	return out
}

// drawn tells all that a tree is, down to its Ids.
func drawn(n *tree.Node) string {
	var b strings.Builder
	var draw func(n *tree.Node)
	draw = func(n *tree.Node) {
		b.WriteString(strconv.Itoa(n.Id) + ":" + show.Show(n.V) + "(")
		for _, k := range n.Keys {
			b.WriteString(strconv.Quote(k) + " ")
		}
		for _, kid := range n.Kids {
			draw(kid)
		}
		b.WriteString(")")
	}
	draw(n)
	return b.String()
}

// wantTree asks for the tree of a value, and tells how many trees are in it: the chapter's Node, P16.1.
func wantTree(t *testing.T, n *tree.Node, v api.Value) int {
	t.Helper()
	bare := v
	bare.L, bare.M = nil, nil
	if len(n.V.L) != 0 || len(n.V.M) != 0 {
		t.Errorf("%.200s: %d elements, %d members in V", show.Show(v), len(n.V.L), len(n.V.M))
	}
	got := n.V
	got.L, got.M = nil, nil
	if !reflect.DeepEqual(got, bare) {
		t.Errorf("%.200s: V is %+v", show.Show(v), got)
	}
	if len(n.Keys) != len(v.M) || len(n.Kids) != len(v.L)+len(v.M) {
		t.Fatalf("%.200s: %d keys, %d kids", show.Show(v), len(n.Keys), len(n.Kids))
	}
	many := 1
	for i, x := range v.L {
		many += wantTree(t, n.Kids[i], x)
	}
	for i, m := range v.M {
		if n.Keys[i] != m.Key {
			t.Errorf("%.200s: key %d is %q", show.Show(v), i, n.Keys[i])
		}
		many += wantTree(t, n.Kids[i], m.V)
	}
	return many
}

// wantBuilt asks for all that is promised of Build, and of Value behind it: P16.1.
func wantBuilt(t *testing.T, v api.Value, next int) *tree.Node {
	t.Helper()
	n, behind := tree.Build(v, next)
	if n == nil {
		t.Fatalf("%.200s: no tree", show.Show(v))
	}
	many := wantTree(t, n, v)
	l := ids(n)
	for i, id := range l {
		if id != next+i {
			t.Fatalf("%.200s from %d on: Ids %.200v", show.Show(v), next, l)
		}
	}
	if behind != next+many {
		t.Errorf("%.200s from %d on: %d is next", show.Show(v), next, behind)
	}
	if got := tree.Value(n); !value.May(got) || !value.Same(got, v) || show.Show(got) != show.Show(v) {
		t.Errorf("%.200s: its tree's value is %.200s", show.Show(v), show.Show(got))
	}
	return n
}

// P16.1: each kind of value, and those that have none, one, or more within them.
func TestBuild(t *testing.T) {
	for _, s := range []string{
		`null`, `false`, `true`, `0`, `-15e-2`, `1e1000`, `""`, `"a"`, `"\u0000\u00e9"`, `[]`, `{}`, `[1]`, `[null]`, `[[]]`, `[{}]`, `{"a":1}`, `{"":{}}`, `{"a":[]}`,
		`[1,2,3]`, `[[],[[]],[]]`, `[[1,[2]],3]`, `{"b":1,"a":2}`, `{"a":{"b":{"c":null}},"d":[{"e":true}]}`, `{"":0,"-":1,"/":2,"0":3,"a":4,"~":5,"\u00e9":6}`,
		`{"a":[1,[true]],"b":"x"}`, `[1,1,1]`, `[{"a":1},{"a":1}]`, `{"10":0,"9":1,"1":2}`,
	} {
		for _, next := range []int{0, 1, 5, 100, 1 << 40, -1, -3, -1000} {
			wantBuilt(t, of(t, s), next)
		}
	}
	for _, c := range []struct {
		s, want string
		next    int
		behind  int
	}{
		{`null`, `0:null()`, 0, 1}, {`[1]`, `5:[](6:1())`, 5, 7}, {`{}`, `7:{}()`, 7, 8},
		{`{"b":[true,"x"],"a":{"c":2}}`, `1:{}("a" "b" 2:{}("c" 3:2())4:[](5:true()6:"x"()))`, 1, 7},
		{`[[1,[2]],[],3]`, `10:[](11:[](12:1()13:[](14:2()))15:[]()16:3())`, 10, 17},
	} {
		if n, behind := tree.Build(of(t, c.s), c.next); drawn(n) != c.want || behind != c.behind {
			t.Errorf("Build(%s, %d) is %s, %d, want %s, %d", c.s, c.next, drawn(n), behind, c.want, c.behind)
		}
	}
}

// keys are those that random values and pointers have; they rise.
func keys() []string { return []string{"", "-", "/", "0", "00", "1", "2", "3", "a", "~", "~1"} }

// randomValue may be; keys are often such as mean an element, too.
func randomValue(r *rand.Rand, levels int) api.Value {
	kinds := []int{api.Null, api.Bool, api.Number, api.String, api.Array, api.Object, api.Array, api.Object}
	if levels <= 0 {
		kinds = kinds[:4]
	}
	v := api.Value{Kind: kinds[r.Intn(len(kinds))]}
	switch v.Kind {
	case api.Bool:
		v.B = r.Intn(2) == 0
	case api.Number:
		v.N = api.Num{Digits: strconv.Itoa(1 + r.Intn(9)), Neg: r.Intn(2) == 0, Exp: r.Intn(3)}
	case api.String:
		v.S = strconv.Itoa(r.Intn(9))
	case api.Array:
		// A list often has room behind it, which isn't its own.
		v.L = make([]api.Value, 0, r.Intn(5))
		for range r.Intn(4) {
			v.L = append(v.L, randomValue(r, levels-1))
		}
	case api.Object:
		v.M = make([]api.Member, 0, r.Intn(5))
		for _, k := range keys() {
			if r.Intn(4) == 0 {
				v.M = append(v.M, pair(k, randomValue(r, levels-1)))
			}
		}
	}
	return v
}

// P16.1: random values.
func TestBuildRandom(t *testing.T) {
	r := rand.New(rand.NewSource(1))
	for i := range 5000 {
		wantBuilt(t, randomValue(r, i%6), r.Intn(2000)-500)
	}
}

// spoil changes all lists of a value, where they stand, and what stands behind them.
func spoil(v api.Value) {
	l, m := v.L[:cap(v.L)], v.M[:cap(v.M)]
	for i := range l {
		spoil(l[i])
		l[i] = text("spoilt")
	}
	for i := range m {
		spoil(m[i].V)
		m[i] = pair("spoilt", text("spoilt"))
	}
}

// spoilOps changes all lists of operations, where they stand.
func spoilOps(l []api.Op) {
	for i := range l {
		for k := range l[i].Path {
			l[i].Path[k] = "spoilt"
		}
		for k := range l[i].From {
			l[i].From[k] = "spoilt"
		}
		spoil(l[i].V)
		l[i] = api.Op{Op: 7}
	}
}

// R2: what is built shares nothing with the value, and what Value tells nothing with the tree.
func TestBuildAlone(t *testing.T) {
	r := rand.New(rand.NewSource(2))
	for i := range 2000 {
		v := randomValue(r, 1+i%4)
		was := show.Show(v)
		n, _ := tree.Build(v, 0)
		if show.Show(v) != was {
			t.Fatalf("%s is %s once it was built", was, show.Show(v))
		}
		told := drawn(n)
		got := tree.Value(n)
		spoil(v)
		if drawn(n) != told || show.Show(got) != was || show.Show(tree.Value(n)) != was {
			t.Fatalf("%s changed behind it: %s, %s", was, drawn(n), show.Show(got))
		}
		again := tree.Value(n)
		spoil(got)
		if drawn(n) != told || show.Show(again) != was || show.Show(tree.Value(n)) != was {
			t.Fatalf("%s changed by what was told: %s, %s", was, drawn(n), show.Show(again))
		}
	}
}

// R2: a tree that stands in two places has two values, that share nothing.
func TestValueTwice(t *testing.T) {
	for _, c := range []struct{ v, p, first, second, want string }{
		{`{"a":[1,[2]]}`, patchOf(copyTo("/a", "/b")), "/a", "/b", `[1,[2]]`},
		{`{"a":[1,[2]]}`, patchOf(copyTo("/a", "/b")), "/a/1", "/b/1", `[2]`},
		{`[{"x":{"y":0}}]`, patchOf(copyTo("/0", "/-")), "/0/x", "/1/x", `{"y":0}`},
		{`[[1]]`, patchOf(copyTo("/0", "/0"), copyTo("", "/-")), "/0", "/2/0", `[1]`},
		{`{"a":[[3]]}`, patchOf(add("/b", `[5]`), copyTo("/b", "/c"), copyTo("/c", "/a/0/0")), "/c", "/a/0/0", `[5]`},
	} {
		n, next := tree.Build(of(t, c.v), 0)
		x, _, err := tree.Apply(n, ops(t, c.p), next)
		if err != nil {
			t.Fatal(c.v, c.p, err)
		}
		for _, places := range [][2]string{{c.first, c.second}, {c.second, c.first}} {
			v := tree.Value(x)
			a, missed := getAt(v, places[0])
			b, missing := getAt(v, places[1])
			if missed != nil || missing != nil || show.Show(a) != c.want || show.Show(b) != c.want {
				t.Fatal(c.v, c.p, show.Show(a), show.Show(b))
			}
			if spoil(a); show.Show(b) != c.want {
				t.Errorf("%s, %s: %s is %s, was %s", c.v, c.p, places[1], show.Show(b), c.want)
			}
		}
	}
}

// getAt is what is at a pointer's text.
func getAt(v api.Value, s string) (api.Value, error) {
	l, err := ptr.Parse(s)
	if err != nil {
		return api.Value{}, err
	}
	return ptr.Get(v, l)
}

// mark is what a tree must be: its Id, or, if Open, one from next on, too; if Fresh, none but that.
type mark struct {
	id          int
	open, fresh bool
	plain       api.Value
	keys        []string
	kids        []*mark
}

// marksOf tells what a tree is.
func marksOf(n *tree.Node) *mark {
	m := &mark{id: n.Id, plain: n.V, keys: slices.Clone(n.Keys)}
	for _, kid := range n.Kids {
		m.kids = append(m.kids, marksOf(kid))
	}
	return m
}

// freshOf tells what the tree of an operation's value must be.
func freshOf(v api.Value) *mark {
	n, _ := tree.Build(v, 0)
	m := marksOf(n)
	var open func(m *mark)
	open = func(m *mark) {
		m.fresh = true
		for _, kid := range m.kids {
			open(kid)
		}
	}
	open(m)
	return m
}

// again is the same, and shares nothing.
func (m *mark) again() *mark {
	x := *m
	x.keys, x.kids = slices.Clone(m.keys), nil
	for _, kid := range m.kids {
		x.kids = append(x.kids, kid.again())
	}
	return &x
}

// spot is where a name leads to, or would lead to.
func (m *mark) spot(name string) int {
	if m.plain.Kind == api.Object {
		i := 0
		for i < len(m.keys) && m.keys[i] < name {
			i++
		}
		return i
	}
	if name == "-" {
		return len(m.kids)
	}
	i, err := strconv.Atoi(name)
	if err != nil {
		panic(name)
	}
	return i
}

// come tells what is at the names, all on the way there, and itself, being come to.
func (m *mark) come(l []string) *mark {
	m.open = true
	for _, name := range l {
		m = m.kids[m.spot(name)]
		m.open = true
	}
	return m
}

// put puts x in at the names.
func (m *mark) put(l []string, x *mark) *mark {
	if len(l) == 0 {
		return x
	}
	in, name := m.come(l[:len(l)-1]), l[len(l)-1]
	i := in.spot(name)
	if in.plain.Kind == api.Object {
		if i < len(in.keys) && in.keys[i] == name {
			in.kids[i] = x
			return m
		}
		in.keys = slices.Insert(in.keys, i, name)
	}
	in.kids = slices.Insert(in.kids, i, x)
	return m
}

// take takes out what is at the names, and tells it.
func (m *mark) take(l []string) *mark {
	in, name := m.come(l[:len(l)-1]), l[len(l)-1]
	i := in.spot(name)
	x := in.kids[i]
	in.kids = slices.Delete(in.kids, i, i+1)
	if in.plain.Kind == api.Object {
		in.keys = slices.Delete(in.keys, i, i+1)
	}
	return x
}

// step does an operation that can be done, as RFC 6902's words have it.
func (m *mark) step(o api.Op) *mark {
	switch o.Op {
	case api.Add:
		return m.put(o.Path, freshOf(o.V))
	case api.Replace:
		*m.come(o.Path) = *freshOf(o.V)
	case api.Remove:
		m.take(o.Path)
	case api.Move:
		x := m.come(o.From)
		if slices.Equal(o.From, o.Path) {
			return m
		}
		m.take(o.From)
		return m.put(o.Path, x)
	case api.Copy:
		x := m.come(o.From).again()
		return m.put(o.Path, x)
	case api.Test:
		m.come(o.Path)
	}
	return m
}

// most is how many Ids from next on a patch may bring: P16.2.
func most(l []api.Op) int {
	many := 0
	for _, o := range l {
		many += len(o.Path) + 1
		if o.Op == api.Move {
			many += len(o.From) + 1
		}
		switch o.Op {
		case api.Add, api.Replace, api.Test:
			many += value.Size(o.V)
		default:
			many++
		}
	}
	return many
}

// told keeps all trees that were told, by their Ids, each with all that it is.
type told map[int]string

// keep asks that two trees of one Id are of one value, with the same Ids in it: P16.2.
func (k told) keep(t *testing.T, n *tree.Node) {
	t.Helper()
	is := drawn(n)
	if was, met := k[n.Id]; met && was != is {
		t.Fatalf("%d is %.300s, was %.300s", n.Id, is, was)
	}
	k[n.Id] = is
	for _, kid := range n.Kids {
		k.keep(t, kid)
	}
}

// wantIds asks that each tree is what its mark says: P16.2, P16.3.
func wantIds(t *testing.T, n *tree.Node, m *mark, next int, what string) {
	t.Helper()
	if len(n.Kids) != len(m.kids) || !slices.Equal(n.Keys, m.keys) || !reflect.DeepEqual(n.V, m.plain) && show.Show(n.V) != show.Show(m.plain) {
		t.Fatalf("%.600s: %.300s", what, drawn(n))
	}
	switch {
	case m.fresh && n.Id < next:
		t.Errorf("%.600s: the value that was made has %d, less than %d: %.300s", what, n.Id, next, drawn(n))
	case !m.fresh && !m.open && n.Id != m.id, !m.fresh && m.open && n.Id != m.id && n.Id < next:
		t.Errorf("%.600s: %d, which was %d (come to: %t; next %d): %.300s", what, n.Id, m.id, m.open, next, drawn(n))
	}
	for i, kid := range n.Kids {
		wantIds(t, kid, m.kids[i], next, what)
	}
}

// done asks for all that is promised of Apply, and tells the tree and next behind it: P16.1, P16.2, P16.3.
func done(t *testing.T, k told, n *tree.Node, l []api.Op, next int) (*tree.Node, int) {
	t.Helper()
	k.keep(t, n)
	what := drawn(n) + ", " + shown(l)
	want, wrong := apply.Apply(tree.Value(n), l)
	x, after, err := tree.Apply(n, l, next)
	if drawn(n)+", "+shown(l) != what {
		t.Fatalf("%.600s changed: %.300s, %.300s", what, drawn(n), shown(l))
	}
	if wrong != nil {
		spot, ok := err.(*api.Spot)
		if !ok || *spot != *wrong.(*api.Spot) || x != nil || after != next {
			t.Errorf("%.600s: %v, next %d, was %d, want %v", what, err, after, next, wrong)
		}
		return n, next
	}
	if err != nil || x == nil || after < next {
		t.Fatalf("%.600s: %v, %v, next %d, was %d", what, x, err, after, next)
	}
	wantTree(t, x, want)
	if got := tree.Value(x); show.Show(got) != show.Show(want) || !value.May(got) {
		t.Errorf("%.600s: %.300s, want %.300s", what, show.Show(got), show.Show(want))
	}
	wantNew(t, x, next, after, most(l), what)
	m := marksOf(n)
	for _, o := range l {
		m = m.step(o)
	}
	wantIds(t, x, m, next, what)
	k.keep(t, x)
	return x, after
}

// wantNew asks that all Ids are below after, and no more than so many from next on: P16.1, P16.2.
func wantNew(t *testing.T, x *tree.Node, next, after, most int, what string) {
	t.Helper()
	fresh := map[int]bool{}
	for _, id := range ids(x) {
		if id >= after {
			t.Errorf("%.600s: %d isn't below %d", what, id, after)
		}
		if id >= next {
			fresh[id] = true
		}
	}
	if len(fresh) > most {
		t.Errorf("%.600s: %d from %d on, may be %d: %.300s", what, len(fresh), next, most, drawn(x))
	}
}

// doneOf is done of texts, and asks for the value's text, or for an error.
func doneOf(t *testing.T, v string, want any, l ...string) {
	t.Helper()
	for _, first := range []int{0, 7, -20} {
		n, next := tree.Build(of(t, v), first)
		for _, more := range []int{0, 1, 1000} {
			k := told{}
			p := ops(t, patchOf(l...))
			x, after := done(t, k, n, p, next+more)
			if s, ok := want.(string); ok {
				if got := show.Show(tree.Value(x)); got != s {
					t.Errorf("%s, %s: %s, want %s", v, shown(p), got, s)
				}
				continue
			}
			x, after, err := tree.Apply(n, p, next+more)
			spot, ok := err.(*api.Spot)
			if !ok || *spot != want || x != nil || after != next+more {
				t.Errorf("%s, %s: %v, %v, %d, want %+v, %d", v, shown(p), x, err, after, want, next+more)
			}
		}
	}
}

// P16.1, P16.2: without operations the tree is told as it is, whatever it is.
func TestNoOperations(t *testing.T) {
	for _, v := range []api.Value{{}, digits("1"), text(""), array(), object(), of(t, `{"a":[{"b":1}]}`), long(api.MaxSize + 1), deep(api.MaxDepth + 1), array(long(2000), long(2000))} {
		n, next := tree.Build(v, 3)
		was := drawn(n)
		for _, l := range [][]api.Op{nil, {}} {
			for _, more := range []int{0, 5} {
				x, after, err := tree.Apply(n, l, next+more)
				if err != nil || drawn(x) != was || drawn(n) != was || after < next+more {
					t.Errorf("%.200s: %v, %d, was %d", show.Show(v), err, after, next+more)
				}
			}
		}
	}
}

// P16.1: each kind of operation, in Objects, in Arrays, and of the whole.
func TestOperations(t *testing.T) {
	v := `{"a":[1,{"b":2}],"c":3}`
	doneOf(t, v, `{"a":[1,{"b":2}],"c":3,"d":[4]}`, add("/d", `[4]`))
	doneOf(t, v, `{"":4,"a":[1,{"b":2}],"c":3}`, add("/", `4`))
	doneOf(t, v, `{"a":[1,{"b":2}],"b":{"x":4},"c":3}`, add("/b", `{"x":4}`))
	doneOf(t, v, `{"a":[1,{"b":2}],"c":4}`, add("/c", `4`))
	doneOf(t, v, `{"a":null,"c":3}`, add("/a", `null`))
	doneOf(t, v, `{"a":[4,1,{"b":2}],"c":3}`, add("/a/0", `4`))
	doneOf(t, v, `{"a":[1,4,{"b":2}],"c":3}`, add("/a/1", `4`))
	doneOf(t, v, `{"a":[1,{"b":2},4],"c":3}`, add("/a/2", `4`))
	doneOf(t, v, `{"a":[1,{"b":2},4],"c":3}`, add("/a/-", `4`))
	doneOf(t, v, `{"a":[1,{"-":4,"b":2}],"c":3}`, add("/a/1/-", `4`))
	doneOf(t, v, `[[]]`, add("", `[[]]`))
	doneOf(t, v, `{"c":3}`, remove("/a"))
	doneOf(t, v, `{"a":[1,{"b":2}]}`, remove("/c"))
	doneOf(t, v, `{"a":[{"b":2}],"c":3}`, remove("/a/0"))
	doneOf(t, v, `{"a":[1],"c":3}`, remove("/a/1"))
	doneOf(t, v, `{"a":[1,{}],"c":3}`, remove("/a/1/b"))
	doneOf(t, v, `{"a":null,"c":3}`, replace("/a", `null`))
	doneOf(t, v, `{"a":["x",{"b":2}],"c":3}`, replace("/a/0", `"x"`))
	doneOf(t, v, `{"a":[1,{"b":{"b":2}}],"c":3}`, replace("/a/1/b", `{"b":2}`))
	doneOf(t, v, v, replace("/a/1/b", `2`))
	doneOf(t, v, v, replace("", v))
	doneOf(t, v, `0`, replace("", `0`))
	doneOf(t, v, `{"b":[1,{"b":2}],"c":3}`, move("/a", "/b"))
	doneOf(t, v, `{"a":[1,{"b":2},3]}`, move("/c", "/a/-"))
	doneOf(t, v, `{"a":[3,1,{"b":2}]}`, move("/c", "/a/0"))
	doneOf(t, v, `{"a":[{"b":2},1],"c":3}`, move("/a/0", "/a/1"))
	doneOf(t, v, `{"a":[{"b":2},1],"c":3}`, move("/a/1", "/a/0"))
	doneOf(t, v, `{"a":2,"c":3}`, move("/a/1/b", "/a"))
	doneOf(t, v, `{"b":2}`, move("/a/1", ""))
	doneOf(t, v, `{"a":[1,{"b":2}],"c":3,"d":[1,{"b":2}]}`, copyTo("/a", "/d"))
	doneOf(t, v, `{"a":[1,{"b":2}],"c":[1,{"b":2}]}`, copyTo("/a", "/c"))
	doneOf(t, v, `{"a":[{"b":2},1,{"b":2}],"c":3}`, copyTo("/a/1", "/a/0"))
	doneOf(t, v, `{"a":[1,{"b":2,"x":`+v+`}],"c":3}`, copyTo("", "/a/1/x"))
	doneOf(t, v, `{"b":2}`, copyTo("/a/1", ""))
	for _, p := range []string{"", "/a", "/a/0", "/a/1", "/a/1/b", "/c"} {
		doneOf(t, v, v, move(p, p))
		doneOf(t, v, v, copyTo("", ""))
		x, err := getAt(of(t, v), p)
		if err != nil {
			t.Fatal(p, err)
		}
		doneOf(t, v, v, testThat(p, show.Show(x)))
	}
	// Names that a pointer's text has in other signs.
	doneOf(t, `{"/":1,"~":2,"~1":3}`, `{"/":1,"~":5,"~1":{"/":4}}`, replace("/~01", `{}`), add("/~01/~1", `4`), replace("/~0", `5`))
	doneOf(t, `{"":{"":{"":1}}}`, `{"":{"":{}}}`, remove("///"))
	doneOf(t, `{"0":[1],"00":2,"-":3}`, `{"-":4,"0":[],"00":2}`, remove("/0/0"), replace("/-", `4`))
	// Several, each of what those ahead of it came to.
	doneOf(t, `{}`, `{"a":{"b":[1,2]}}`, add("/a", `{}`), add("/a/b", `[]`), add("/a/b/-", `2`), add("/a/b/0", `1`))
	doneOf(t, `[1,2,3]`, `[3]`, remove("/0"), remove("/0"))
	doneOf(t, `{"a":[1]}`, `{"a":[1,2],"b":[3,1]}`, copyTo("/a", "/b"), add("/a/-", `2`), add("/b/0", `3`))
	doneOf(t, `{"a":{"x":[]}}`, `{"a":{"x":[1]},"b":{"x":[2]}}`, copyTo("/a", "/b"), add("/a/x/0", `1`), add("/b/x/0", `2`))
	doneOf(t, `{"a":{"x":[]}}`, `{"a":{"x":[]},"b":{}}`, copyTo("/a", "/b"), remove("/b/x"))
	doneOf(t, `1`, `[{"b":2}]`, replace("", `{"a":[]}`), add("/a/0", `{}`), add("/a/0/b", `2`), move("/a", ""))
	doneOf(t, `{"a":1,"b":2}`, `{"a":2,"b":1}`, move("/a", "/x"), move("/b", "/a"), move("/x", "/b"))
	doneOf(t, `[[1],[2]]`, `[[],[2],1]`, testThat("/1", `[2]`), move("/0/0", "/-"), testThat("/2", `1`))
}

// P16.1: layer 9's errors, with the operation; no tree, and next.
func TestErrors(t *testing.T) {
	errorAt := func(code api.Code, i int) any { return api.Spot{At: i, Code: code} }
	v := `{"a":[1],"b":{"c":2}}`
	for _, c := range []struct {
		o    string
		code api.Code
	}{
		{add("/x/y", `1`), api.ErrNone}, {add("/a/2", `1`), api.ErrNone}, {add("/a/x", `1`), api.ErrNone}, {add("/a/01", `1`), api.ErrNone}, {add("/b/c/d", `1`), api.ErrNone}, {add("/a/-/0", `1`), api.ErrNone},
		{remove("/x"), api.ErrNone}, {remove("/a/1"), api.ErrNone}, {remove("/a/-"), api.ErrNone}, {remove("/b/c/0"), api.ErrNone}, {remove(""), api.ErrRoot},
		{replace("/x", `1`), api.ErrNone}, {replace("/a/1", `1`), api.ErrNone}, {replace("/a/-", `1`), api.ErrNone}, {replace("/b/d", `1`), api.ErrNone},
		{move("/x", "/y"), api.ErrNone}, {move("/a", "/x/y"), api.ErrNone}, {move("/a/0", "/a/1"), api.ErrNone}, {move("/a", "/b/c/d"), api.ErrNone}, {move("/x", "/x"), api.ErrNone},
		{move("/a", "/a/0"), api.ErrInto}, {move("", "/a"), api.ErrInto}, {move("/x", "/x/y"), api.ErrInto},
		{copyTo("/x", "/y"), api.ErrNone}, {copyTo("/a", "/x/y"), api.ErrNone}, {copyTo("/a/1", "/b"), api.ErrNone}, {copyTo("/x", "/x"), api.ErrNone}, {copyTo("", "/b/c/d"), api.ErrNone},
		{testThat("/x", `1`), api.ErrNone}, {testThat("/a/-", `1`), api.ErrNone}, {testThat("/a", `[2]`), api.ErrTest}, {testThat("", `{}`), api.ErrTest}, {testThat("/b", `[]`), api.ErrTest},
		{add("/d", show.Show(long(api.MaxSize-4))), api.ErrLarge}, {replace("", show.Show(long(api.MaxSize+1))), api.ErrLarge},
	} {
		doneOf(t, v, errorAt(c.code, 0), c.o)
		doneOf(t, v, errorAt(c.code, 0), c.o, c.o)
		doneOf(t, v, errorAt(c.code, 0), c.o, remove(""))
		doneOf(t, v, errorAt(c.code, 2), testThat("/b/c", `2`), add("/f", `[1,2]`), c.o, add("/g", `3`))
		doneOf(t, v, errorAt(c.code, 3), copyTo("/a", "/f"), move("/f", "/g"), remove("/g"), c.o)
	}
	// The error is a Spot, and of layer 9's Code.
	n, next := tree.Build(of(t, v), 0)
	_, _, err := tree.Apply(n, ops(t, patchOf(remove("/x"))), next)
	var spot *api.Spot
	if !errors.As(err, &spot) || !errors.Is(err, api.ErrNone) {
		t.Error(err)
	}
	// What was told is the caller's own.
	*spot = api.Spot{At: 77, Code: api.ErrCycle}
	if _, _, again := tree.Apply(n, ops(t, patchOf(remove("/x"))), next); *again.(*api.Spot) != (api.Spot{Code: api.ErrNone}) {
		t.Error(again)
	}
	// By a copy too big, or too deep; and neither by a move, nor one less.
	wide, far := `{"a":`+show.Show(long(1500))+`}`, `{"a":`+show.Show(deep(16))+`}`
	doneOf(t, wide, errorAt(api.ErrLarge, 1), move("/a", "/b"), copyTo("/b", "/a"))
	doneOf(t, wide, errorAt(api.ErrNone, 2), remove("/a/0"), copyTo("/a", "/b"), remove("/b/1498"))
	doneOf(t, far, errorAt(api.ErrDepth, 1), move("/a", "/b"), copyTo("/b", "/b"+strings.Repeat("/0", 16)))
	doneOf(t, far, errorAt(api.ErrNone, 2), copyTo("/a", "/a"+strings.Repeat("/0", 15)), remove("/a"), remove("/a"))
	// Too big from the start, or too deep.
	for _, c := range []struct {
		v    api.Value
		code api.Code
	}{{long(api.MaxSize + 1), api.ErrLarge}, {deep(api.MaxDepth + 1), api.ErrDepth}} {
		n, next := tree.Build(c.v, 0)
		for _, l := range [][]api.Op{{{Op: api.Test, V: c.v}}, {{Op: api.Move}}, {{Op: api.Copy}}, {{Op: api.Replace, V: c.v}}} {
			x, after, err := tree.Apply(n, l, next)
			if x != nil || after != next || err == nil || *err.(*api.Spot) != (api.Spot{Code: c.code}) {
				t.Errorf("%.200s: %v, %d, %v", shown(l), x != nil, after, err)
			}
			done(t, told{}, n, []api.Op{{Op: api.Remove, Path: names("0")}}, next)
		}
	}
}

// idAt is the Id of the tree at a pointer's text.
func idAt(t *testing.T, n *tree.Node, s string) int {
	t.Helper()
	l, err := ptr.Parse(s)
	if err != nil {
		t.Fatal(s, err)
	}
	for _, name := range l {
		i := slices.Index(n.Keys, name)
		if n.V.Kind == api.Array {
			i, err = strconv.Atoi(name)
		}
		if err != nil || i < 0 || i >= len(n.Kids) {
			t.Fatal(s, "isn't there:", name)
		}
		n = n.Kids[i]
	}
	return n.Id
}

// P16.2, P16.3: which trees keep their Ids, wherever they are then, and which have new ones.
func TestIds(t *testing.T) {
	v := `{"a":[1,{"b":[2]}],"c":{"d":3,"e":[4]},"f":5}`
	for _, c := range []struct {
		p string
		// What is at the first pointer then was at the second one.
		kept [][2]string
		// What is there then is new.
		fresh []string
	}{
		{add("/g", `[6]`), [][2]string{{"/a", "/a"}, {"/c", "/c"}, {"/f", "/f"}}, []string{"", "/g", "/g/0"}},
		{add("/a/0", `6`), [][2]string{{"/a/1", "/a/0"}, {"/a/2", "/a/1"}, {"/a/2/b/0", "/a/1/b/0"}, {"/c", "/c"}, {"/f", "/f"}}, []string{"", "/a", "/a/0"}},
		{add("/a/1/b/-", `6`), [][2]string{{"/a/0", "/a/0"}, {"/a/1/b/0", "/a/1/b/0"}, {"/c", "/c"}, {"/f", "/f"}}, []string{"", "/a", "/a/1", "/a/1/b", "/a/1/b/1"}},
		{add("/c/d", `6`), [][2]string{{"/c/e", "/c/e"}, {"/a", "/a"}, {"/f", "/f"}}, []string{"", "/c", "/c/d"}},
		{add("", v), nil, []string{"", "/a", "/a/0", "/a/1", "/a/1/b", "/a/1/b/0", "/c", "/c/d", "/c/e", "/c/e/0", "/f"}},
		{remove("/a/0"), [][2]string{{"/a/0", "/a/1"}, {"/a/0/b", "/a/1/b"}, {"/c", "/c"}, {"/f", "/f"}}, []string{"", "/a"}},
		{remove("/c/e/0"), [][2]string{{"/c/d", "/c/d"}, {"/a", "/a"}, {"/f", "/f"}}, []string{"", "/c", "/c/e"}},
		{remove("/c"), [][2]string{{"/a", "/a"}, {"/f", "/f"}}, []string{""}},
		{replace("/a/1", `{"b":[2,2]}`), [][2]string{{"/a/0", "/a/0"}, {"/c", "/c"}, {"/f", "/f"}}, []string{"", "/a", "/a/1", "/a/1/b", "/a/1/b/0"}},
		{replace("/f", `6`), [][2]string{{"/a", "/a"}, {"/c", "/c"}}, []string{"", "/f"}},
		{move("/a/1/b/0", "/c/e/0"), [][2]string{{"/a/0", "/a/0"}, {"/c/d", "/c/d"}, {"/c/e/1", "/c/e/0"}, {"/f", "/f"}}, []string{"", "/a", "/a/1", "/a/1/b", "/c", "/c/e"}},
		{move("/a", "/c/e/0"), [][2]string{{"/c/e/0/0", "/a/0"}, {"/c/e/0/1", "/a/1"}, {"/c/e/1", "/c/e/0"}, {"/c/d", "/c/d"}, {"/f", "/f"}}, []string{"", "/c", "/c/e"}},
		{move("/c", "/b"), [][2]string{{"/a", "/a"}, {"/b/d", "/c/d"}, {"/b/e", "/c/e"}, {"/f", "/f"}}, []string{""}},
		{move("/c/e", ""), [][2]string{{"/0", "/c/e/0"}}, nil},
		{copyTo("/a", "/g"), [][2]string{{"/a/0", "/a/0"}, {"/a/1", "/a/1"}, {"/g/0", "/a/0"}, {"/g/1", "/a/1"}, {"/c", "/c"}, {"/f", "/f"}}, []string{""}},
		{copyTo("/c", "/a/1/b/0"), [][2]string{{"/a/0", "/a/0"}, {"/a/1/b/0/e", "/c/e"}, {"/a/1/b/1", "/a/1/b/0"}, {"/c/d", "/c/d"}, {"/f", "/f"}}, []string{"", "/a", "/a/1", "/a/1/b"}},
		{copyTo("", "/g"), [][2]string{{"/a", "/a"}, {"/c", "/c"}, {"/f", "/f"}, {"/g/a", "/a"}, {"/g/c", "/c"}, {"/g/f", "/f"}}, []string{""}},
		{testThat("/c/e", `[4]`), [][2]string{{"/a", "/a"}, {"/c/d", "/c/d"}, {"/c/e/0", "/c/e/0"}, {"/f", "/f"}}, nil},
		{move("/a/1", "/a/1"), [][2]string{{"/a/0", "/a/0"}, {"/a/1/b", "/a/1/b"}, {"/c", "/c"}, {"/f", "/f"}}, nil},
	} {
		n, next := tree.Build(of(t, v), 100)
		x, after := done(t, told{}, n, ops(t, patchOf(c.p)), next+10)
		for _, places := range c.kept {
			if was, is := idAt(t, n, places[1]), idAt(t, x, places[0]); was != is {
				t.Errorf("%s: %s is %d, %s was %d", c.p, places[0], is, places[1], was)
			}
		}
		for _, place := range c.fresh {
			if id := idAt(t, x, place); id < next+10 || id >= after {
				t.Errorf("%s: %s is %d, want %d to %d", c.p, place, id, next+10, after-1)
			}
		}
	}
}

// P16.2: a tree that is in two places is one, until the one of both is changed.
func TestShared(t *testing.T) {
	k := told{}
	n, next := tree.Build(of(t, `{"a":{"x":[1,2],"y":{"z":3}}}`), 0)
	both, next := done(t, k, n, ops(t, patchOf(copyTo("/a", "/b"))), next)
	for _, place := range []string{"/x", "/x/0", "/x/1", "/y", "/y/z"} {
		if idAt(t, both, "/a"+place) != idAt(t, n, "/a"+place) || idAt(t, both, "/b"+place) != idAt(t, n, "/a"+place) {
			t.Error(place, drawn(both))
		}
	}
	x, next := done(t, k, both, ops(t, patchOf(add("/b/x/-", `4`))), next)
	if got := show.Show(tree.Value(x)); got != `{"a":{"x":[1,2],"y":{"z":3}},"b":{"x":[1,2,4],"y":{"z":3}}}` {
		t.Error(got)
	}
	if idAt(t, x, "/a") != idAt(t, both, "/a") || idAt(t, x, "/b") == idAt(t, x, "/a") || idAt(t, x, "/b/x") == idAt(t, x, "/a/x") || idAt(t, x, "/b/y") != idAt(t, x, "/a/y") || idAt(t, x, "/b/x/0") != idAt(t, x, "/a/x/0") {
		t.Error(drawn(x))
	}
	y, next := done(t, k, x, ops(t, patchOf(remove("/a/y/z"), remove("/b/y/z"))), next)
	// Both have one value again, but each was made by itself.
	if idAt(t, y, "/a/x") != idAt(t, x, "/a/x") || idAt(t, y, "/b/x") != idAt(t, x, "/b/x") || idAt(t, y, "/a/y") < 0 {
		t.Error(drawn(y))
	}
	// A value that is handed in twice is made twice, and one that was made may be copied.
	z, _ := done(t, k, y, ops(t, patchOf(replace("/a", `[[7]]`), replace("/b", `[[7]]`), copyTo("/a", "/c"), add("/c/0/-", `8`))), next)
	if got := show.Show(tree.Value(z)); got != `{"a":[[7]],"b":[[7]],"c":[[7,8]]}` || idAt(t, z, "/c/0/0") != idAt(t, z, "/a/0/0") || idAt(t, z, "/c/0") == idAt(t, z, "/a/0") {
		t.Error(got, drawn(z))
	}
}

// P16.2: copies upon copies bring few Ids, however much is copied.
func TestCopies(t *testing.T) {
	k := told{}
	n, next := tree.Build(array(digits("1"), object(pair("a", array()))), 0)
	for i := range 9 {
		x, after := done(t, k, n, []api.Op{{Op: api.Copy, Path: names("-")}}, next)
		if size := value.Size(tree.Value(x)); size != 4<<(i+1) {
			t.Error(i, size)
		}
		n, next = x, after
	}
	l := slices.Clone(ids(n))
	slices.Sort(l)
	if many := len(slices.Compact(l)); many > 4+9*3 {
		t.Error(many)
	}
	n, next = done(t, k, n, []api.Op{{Op: api.Copy, Path: names("-")}}, next)
	if size := value.Size(tree.Value(n)); size != 2048 {
		t.Error("too large a copy isn't told of:", size)
	}
}

// all tells each list of names into v.
func all(v api.Value) [][]string {
	l := [][]string{{}}
	put := func(name string, x api.Value) {
		for _, on := range all(x) {
			l = append(l, append([]string{name}, on...))
		}
	}
	for i, x := range v.L {
		put(strconv.Itoa(i), x)
	}
	for _, m := range v.M {
		put(m.Key, m.V)
	}
	return l
}

// randomPlace is a pointer to something in a value, or close to it.
func randomPlace(r *rand.Rand, ways [][]string, close int) []string {
	l := slices.Clone(ways[r.Intn(len(ways))])
	if r.Intn(close) == 0 {
		l = append(l, keys()[r.Intn(len(keys()))])
	}
	if len(l) > 0 && r.Intn(6*close) == 0 {
		l[r.Intn(len(l))] = keys()[r.Intn(len(keys()))]
	}
	return l
}

// randomOp is an operation that can often be done to a value.
func randomOp(r *rand.Rand, v api.Value) api.Op {
	ways := all(v)
	deepest := slices.Clone(ways[len(ways)-1])
	o := api.Op{Op: 1 + r.Intn(6)}
	switch o.Op {
	case api.Add:
		o.Path, o.V = randomPlace(r, ways, 2), randomValue(r, r.Intn(4))
	case api.Remove:
		o.Path = randomPlace(r, ways, 40)
		if len(o.Path) == 0 && r.Intn(10) > 0 {
			o.Path = deepest
		}
	case api.Replace:
		o.Path, o.V = randomPlace(r, ways, 40), randomValue(r, r.Intn(4))
		if len(o.Path) == 0 && r.Intn(3) > 0 {
			o.Path = deepest
		}
	case api.Move, api.Copy:
		o.From, o.Path = randomPlace(r, ways, 40), randomPlace(r, ways, 2)
		if o.Op == api.Move && len(o.From) == 0 && r.Intn(10) > 0 {
			o.From = deepest
		}
	case api.Test:
		o.Path = randomPlace(r, ways, 40)
		if x, err := ptr.Get(v, o.Path); err == nil {
			n, _ := tree.Build(x, 0)
			o.V = tree.Value(n)
		}
		if r.Intn(20) == 0 {
			o.V = randomValue(r, 2)
		}
	}
	return o
}

// randomPatch is one that can often be done: what is behind each operation is what the next one is made for.
func randomPatch(r *rand.Rand, v api.Value, many int) []api.Op {
	var l []api.Op
	for range many {
		o := randomOp(r, v)
		l = append(l, o)
		next, err := apply.Apply(v, []api.Op{o})
		if err != nil || value.Size(next) > 300 {
			return l
		}
		v = next
	}
	return l
}

// P16.1, P16.2, P16.3: patches one behind the other, and to trees of before, with next going on.
func TestRandom(t *testing.T) {
	r := rand.New(rand.NewSource(3))
	patched, failed := 0, 0
	for i := range 4000 {
		k := told{}
		n, next := tree.Build(randomValue(r, 1+i%4), r.Intn(100)-50)
		trees := []*tree.Node{n}
		drawings := []string{drawn(n)}
		for range 12 {
			n := trees[len(trees)-1]
			if r.Intn(4) == 0 {
				n = trees[r.Intn(len(trees))]
			}
			v := tree.Value(n)
			if value.Size(v) > 300 {
				break
			}
			l := randomPatch(r, v, 1+r.Intn(6))
			x, after := done(t, k, n, l, next)
			if _, err := apply.Apply(v, l); err != nil {
				failed++
				continue
			}
			patched++
			next = after + r.Intn(2)*r.Intn(10)
			trees, drawings = append(trees, x), append(drawings, drawn(x))
		}
		for i, n := range trees {
			if drawn(n) != drawings[i] {
				t.Fatalf("%.300s was %.300s", drawn(n), drawings[i])
			}
		}
		if t.Failed() {
			return
		}
	}
	if patched < 10000 || failed < 10000 {
		t.Error("too few:", patched, failed)
	}
}

// P16.1, P16.2, P16.3: one operation of each kind, with all pointers of chosen names, of small values.
func TestAllShort(t *testing.T) {
	var places [][]string
	var on func(l []string)
	on = func(l []string) {
		places = append(places, l)
		for _, name := range []string{"", "-", "0", "1", "00"} {
			if len(l) < 2 {
				on(append(slices.Clone(l), name))
			}
		}
	}
	on([]string{})
	for _, s := range []string{`1`, `[]`, `{}`, `[1]`, `[[],2]`, `[{},[3,4]]`, `{"0":[1],"1":2}`, `{"":{"":1,"-":{}},"-":[[]],"00":{"1":1}}`, `[[1,2],{"0":3}]`} {
		n, next := tree.Build(of(t, s), 0)
		for _, path := range places {
			for _, op := range []int{api.Add, api.Remove, api.Replace, api.Test} {
				for _, x := range []string{`1`, `[]`, `{"":1,"-":{}}`} {
					done(t, told{}, n, []api.Op{{Op: op, Path: path, V: of(t, x)}}, next)
				}
			}
			for _, from := range places {
				for _, op := range []int{api.Move, api.Copy} {
					done(t, told{}, n, []api.Op{{Op: op, Path: path, From: from}}, next)
				}
			}
		}
	}
}

// P16.2: one tree may be patched again and again; what was told of it stays.
func TestManyFromOne(t *testing.T) {
	for _, s := range []string{`[]`, `[1]`, `[1,2,3]`, `[1,2,3,4,5]`, `{}`, `{"0":1}`, `{"0":1,"1":2,"2":3}`} {
		k := told{}
		n, next := tree.Build(of(t, s), 0)
		// One that was made by a patch, whose lists may have room behind them.
		for range 5 {
			var told []*tree.Node
			var drawings []string
			for i, p := range []string{
				add("/-", `"a"`), add("/-", `"b"`), add("/0", `"c"`), add("/0", `"d"`), remove("/0"), replace("/0", `"e"`), replace("/0", `"f"`),
				move("/0", "/-"), move("/1", "/0"), copyTo("/0", "/-"), copyTo("", "/-"), add("/3", `"g"`), add("/5", `"h"`), remove("/2"), add("/6", `"i"`),
			} {
				x, after := done(t, k, n, ops(t, patchOf(p)), next+i)
				next = after
				told, drawings = append(told, x), append(drawings, drawn(x))
			}
			for i, x := range told {
				if drawn(x) != drawings[i] {
					t.Fatalf("%d of %s: %s, was %s", i, s, drawn(x), drawings[i])
				}
			}
			n = told[0]
		}
	}
}

// R2: nothing of the operations is kept, nor of what Value told.
func TestNothingKept(t *testing.T) {
	v := `{"a":{"b":1},"l":[1,2]}`
	p := patchOf(testThat("/a/b", `1`), add("/c", `[2,{"d":[3]}]`), add("/c/1/e", `{"f":[]}`), move("/a/b", "/g"), copyTo("/c", "/h"), replace("/l/0", `[[4]]`), add("/l/-", `{"x":5}`))
	n, next := tree.Build(of(t, v), 0)
	l := ops(t, p)
	x, _ := done(t, told{}, n, l, next)
	was, is := drawn(n), drawn(x)
	got := tree.Value(x)
	spoilOps(l)
	if drawn(n) != was || drawn(x) != is || show.Show(got) != show.Show(tree.Value(x)) {
		t.Errorf("%s, was %s; %s, was %s", drawn(n), was, drawn(x), is)
	}
	spoil(got)
	spoil(tree.Value(n))
	if drawn(n) != was || drawn(x) != is {
		t.Errorf("%s, was %s; %s, was %s", drawn(n), was, drawn(x), is)
	}
	r := rand.New(rand.NewSource(4))
	for i := range 2000 {
		v := randomValue(r, 1+i%4)
		l := randomPatch(r, v, r.Intn(5))
		n, next := tree.Build(v, 0)
		x, _, err := tree.Apply(n, l, next)
		if err != nil {
			x = n
		}
		was, is, told := drawn(n), drawn(x), shown(l)
		spoilOps(l)
		spoil(v)
		spoil(tree.Value(x))
		if drawn(n) != was || drawn(x) != is {
			t.Fatalf("%s: %s, was %s; %s, was %s", told, drawn(n), was, drawn(x), is)
		}
	}
}

// P16.1: there may be many operations, more than a patch's text may have.
func TestMany(t *testing.T) {
	for _, many := range []int{99, 100, 101, 1000} {
		var l []api.Op
		for range many {
			l = append(l, api.Op{Op: api.Add, Path: names("-"), V: digits("1")})
		}
		n, next := tree.Build(array(), 0)
		x, after := done(t, told{}, n, l, next)
		if len(x.Kids) != many {
			t.Error(len(x.Kids))
		}
		done(t, told{}, n, append(slices.Clone(l), api.Op{Op: api.Remove}), next)
		done(t, told{}, x, slices.Repeat([]api.Op{{Op: api.Move, Path: names("-"), From: names("0")}, {Op: api.Remove, Path: names("0")}}, many/2), after)
	}
	n, next := tree.Build(array(), 0)
	l := slices.Repeat([]api.Op{{Op: api.Add, Path: names("0"), V: digits("1")}}, api.MaxSize)
	done(t, told{}, n, l, next)
	done(t, told{}, n, l[1:], next)
}

// P1: values as large, and as deep, as the document's bound has them.
func TestLargeAndDeep(t *testing.T) {
	const many, levels = 1 << 20, 1 << 16
	n, next := tree.Build(long(many), 1)
	if next != many+1 || len(n.Kids) != many-1 || n.Kids[many-2].Id != many {
		t.Error(next, len(n.Kids))
	}
	if v := tree.Value(n); len(v.L) != many-1 || v.L[many-2].N.Digits != "1" {
		t.Error(len(v.L))
	}
	if x, after, err := tree.Apply(n, []api.Op{{Op: api.Replace, Path: names("5"), V: array()}}, next); x != nil || after != next || !errors.Is(err, api.ErrLarge) {
		t.Error(x, after, err)
	}
	if x, after, err := tree.Apply(n, []api.Op{{Op: api.Copy, From: names("5")}}, next); err != nil || after < next || show.Show(tree.Value(x)) != "1" {
		t.Error(x, after, err)
	}
	far, next := tree.Build(deep(levels), 1)
	last := far
	for len(last.Kids) > 0 {
		last = last.Kids[0]
	}
	if next != levels+1 || last.Id != levels || value.Depth(tree.Value(far)) != levels {
		t.Error(next, last.Id)
	}
	down := slices.Repeat([]string{"0"}, levels-1)
	for _, c := range []struct {
		o    api.Op
		want any
	}{
		{api.Op{Op: api.Replace, V: digits("1")}, "1"},
		{api.Op{Op: api.Move, From: down}, "[]"},
		{api.Op{Op: api.Copy, From: down[:levels-32]}, show.Show(deep(32))},
		{api.Op{Op: api.Copy, From: down[:levels-33]}, api.ErrDepth},
		{api.Op{Op: api.Copy, From: down[:1]}, api.ErrLarge},
		{api.Op{Op: api.Remove, Path: down[:31]}, show.Show(deep(31))},
		{api.Op{Op: api.Remove, Path: down[:32]}, show.Show(deep(32))},
		{api.Op{Op: api.Remove, Path: down[:33]}, api.ErrDepth},
		{api.Op{Op: api.Remove, Path: down[:3000]}, api.ErrDepth},
		{api.Op{Op: api.Remove, Path: down[:3001]}, api.ErrLarge},
		{api.Op{Op: api.Replace, Path: down, V: digits("1")}, api.ErrLarge},
		{api.Op{Op: api.Remove, Path: append(slices.Clone(down), "0")}, api.ErrNone},
	} {
		l := []api.Op{c.o}
		if c.want == api.ErrDepth || c.want == api.ErrLarge {
			// That what is behind it were smaller doesn't matter.
			l = append(l, api.Op{Op: api.Replace, V: digits("1")})
		}
		x, after, err := tree.Apply(far, l, next)
		if s, ok := c.want.(string); ok {
			if err != nil || after < next || show.Show(tree.Value(x)) != s {
				t.Errorf("%d: %v, %d", c.o.Op, err, after)
			}
		} else if x != nil || after != next || !errors.Is(err, c.want.(api.Code)) {
			t.Errorf("%d: %v, %d, want %v", c.o.Op, err, after, c.want)
		}
	}
	if last.Id != levels || far.Id != 1 || value.Depth(tree.Value(far)) != levels {
		t.Error("changed")
	}
}

// P16.1, P16.2: at the edges of size and of depth.
func TestEdges(t *testing.T) {
	n, next := tree.Build(long(api.MaxSize-1), 0)
	one := api.Op{Op: api.Add, Path: names("-"), V: digits("1")}
	x, after, err := tree.Apply(n, []api.Op{one}, next)
	if err != nil || value.Size(tree.Value(x)) != api.MaxSize {
		t.Fatal(err)
	}
	wantNew(t, x, next, after, 3, "one more")
	for _, l := range [][]api.Op{{one}, {{Op: api.Copy, Path: names("0"), From: names("1")}}, {{Op: api.Move, Path: names("0"), From: names("1")}, one}} {
		y, next, err := tree.Apply(x, l, after)
		if spot, ok := err.(*api.Spot); y != nil || next != after || !ok || *spot != (api.Spot{At: len(l) - 1, Code: api.ErrLarge}) {
			t.Errorf("%s: %d, %v", shown(l), next, err)
		}
	}
	bottom := slices.Repeat([]string{"0"}, api.MaxDepth)
	n, next = tree.Build(deep(api.MaxDepth), 0)
	k := told{}
	for _, s := range []string{`null`, `1`, `"a"`, `[]`, `{}`, `[1]`} {
		for i := range bottom {
			done(t, k, n, []api.Op{{Op: api.Replace, Path: bottom[:i], V: of(t, s)}}, next)
			// What was told isn't told again: the Ids of each go on from the ones ahead of it.
			next += 100
			_, next = done(t, k, n, []api.Op{{Op: api.Add, Path: append(slices.Clone(bottom[:i]), "-"), V: of(t, s)}}, next)
		}
		_, next = done(t, k, n, []api.Op{{Op: api.Add, Path: bottom, V: of(t, s)}}, next)
	}
}

// P1: no call panics at an operation that is none, though nothing is promised of it.
func TestNoSuchOperation(t *testing.T) {
	n, next := tree.Build(of(t, `{"a":[1]}`), 0)
	for _, op := range []int{0, 7, 8, -1, -6, 100, 1 << 40, -1 << 62} {
		for _, l := range [][]string{nil, {}, {"a"}, {"a", "0"}, {"x", "y"}} {
			tree.Apply(n, []api.Op{{Op: op, Path: l, From: l, V: text("x")}, {Op: op}}, next)
		}
	}
}

// P16.1: what an operation doesn't have is passed over.
func TestWhatMeansNothing(t *testing.T) {
	k := told{}
	n, next := tree.Build(of(t, `{"a":1,"b":2}`), 0)
	for _, from := range [][]string{nil, {}, {"x"}, {"a"}, {"b", "c"}} {
		for _, o := range []api.Op{{Op: api.Add, Path: names("c"), V: digits("1")}, {Op: api.Remove, Path: names("b")}, {Op: api.Replace, Path: names("b"), V: array()}, {Op: api.Test, Path: names("a"), V: digits("1")}} {
			o.From = from
			_, next = done(t, k, n, []api.Op{o}, next)
		}
	}
	for _, x := range []api.Value{{}, digits("2"), long(100), long(api.MaxSize + 1), deep(api.MaxDepth + 1)} {
		for _, o := range []api.Op{{Op: api.Remove, Path: names("b")}, {Op: api.Move, Path: names("c"), From: names("b")}, {Op: api.Copy, Path: names("c"), From: names("b")}} {
			o.V = x
			_, next = done(t, k, n, []api.Op{o}, next)
		}
	}
}

// P16.2: what else is done to a tree at the same time doesn't matter.
func TestAtOnce(t *testing.T) {
	r := rand.New(rand.NewSource(6))
	v := array()
	for range 20 {
		v.L = append(v.L, randomValue(r, 3))
	}
	n, next := tree.Build(v, 0)
	was := drawn(n)
	var patches [][]api.Op
	var want []string
	for range 100 {
		l := randomPatch(r, v, 6)
		patches = append(patches, l)
		x, _, err := tree.Apply(n, l, next)
		if err != nil {
			want = append(want, err.Error())
		} else {
			want = append(want, drawn(x))
		}
	}
	var workers sync.WaitGroup
	for k := range 8 {
		workers.Go(func() {
			for i, l := range patches {
				if i%8 != k && i%3 != 0 {
					continue
				}
				x, _, err := tree.Apply(n, l, next)
				if err != nil && err.Error() != want[i] || err == nil && drawn(x) != want[i] {
					t.Errorf("%.300s: not as before", shown(l))
				}
			}
		})
	}
	workers.Wait()
	if drawn(n) != was {
		t.Error("changed")
	}
}

// P16.1, P16.2, P16.3: any value, with any patch, and with another one behind it.
func FuzzApply(f *testing.F) {
	f.Add(`{"a":[1,2]}`, patchOf(move("/a/0", "/b"), copyTo("/b", "/a/-")), patchOf(add("/a/0", `[]`)))
	f.Add(`[1,[2]]`, patchOf(testThat("/1", `[2.0]`), replace("", `{}`), remove("/a")), patchOf())
	f.Add(`{"b":1}`, patchOf(add("/~01", `null`), move("", "/b")), patchOf(copyTo("", "/b")))
	f.Add(`{"b":{}}`, patchOf(copyTo("", "/b/b"), copyTo("", "/b/c"), move("/b/b", "/b")), patchOf(remove("/b")))
	f.Fuzz(func(t *testing.T, s, p, q string) {
		v, err := parse.Parse(s)
		if err != nil || value.Size(v) > 300 {
			return
		}
		k := told{}
		n, next := tree.Build(v, 0)
		for _, s := range []string{p, q, p} {
			text, err := parse.Parse(s)
			if err != nil {
				return
			}
			l, err := patch.Read(text)
			if err != nil {
				return
			}
			n, next = done(t, k, n, l, next)
		}
	})
}
