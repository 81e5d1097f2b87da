package edit

import (
	"math/rand"
	"reflect"
	"slices"
	"strconv"
	"strings"
	"sync"
	"testing"

	"doublet/api"
	"doublet/parse"
	"doublet/ptr"
	"doublet/show"
	"doublet/value"
)

func boolean(b bool) api.Value              { return api.Value{Kind: api.Bool, B: b} }
func digits(s string) api.Value             { return api.Value{Kind: api.Number, N: api.Num{Digits: s}} }
func text(s string) api.Value               { return api.Value{Kind: api.String, S: s} }
func array(l ...api.Value) api.Value        { return api.Value{Kind: api.Array, L: l} }
func object(l ...api.Member) api.Value      { return api.Value{Kind: api.Object, M: l} }
func pair(k string, v api.Value) api.Member { return api.Member{Key: k, V: v} }

// clone shares no list with v.
func clone(v api.Value) api.Value {
	v.L, v.M = slices.Clone(v.L), slices.Clone(v.M)
	for i := range v.L {
		v.L[i] = clone(v.L[i])
	}
	for i := range v.M {
		v.M[i].V = clone(v.M[i].V)
	}
	return v
}

// of is the value of a text.
func of(t *testing.T, s string) api.Value {
	t.Helper()
	v, err := parse.Parse(s)
	if err != nil {
		t.Fatalf("%.200q is no value: %v", s, err)
	}
	return v
}

// names are those of a pointer's text.
func names(t *testing.T, s string) []string {
	t.Helper()
	l, err := ptr.Parse(s)
	if err != nil {
		t.Fatalf("%.200q is no pointer: %v", s, err)
	}
	return l
}

// want asks for a text's value; or for an error itself, and nothing beside it: P7.1, R3.
func want(t *testing.T, what string, got api.Value, err error, want string) {
	t.Helper()
	code := map[string]error{"none": api.ErrNone, "root": api.ErrRoot}[want]
	switch {
	case err != code:
		t.Errorf("%s is %s, %v, want %s", what, show.Show(got), err, want)
	case code != nil && !reflect.DeepEqual(got, api.Value{}):
		t.Errorf("%s is %s beside %v", what, show.Show(got), err)
	case code == nil && (show.Show(got) != want || !value.May(got)):
		t.Errorf("%s is %s (%+v), want %s", what, show.Show(got), got, want)
	}
}

// wantAll asks for all three changes of one place.
func wantAll(t *testing.T, v, p, x, add, remove, replace string) {
	t.Helper()
	a, l, b := of(t, v), names(t, p), of(t, x)
	got, err := Add(a, l, b)
	want(t, "Add("+v+", "+p+", "+x+")", got, err, add)
	got, err = Remove(a, l)
	want(t, "Remove("+v+", "+p+")", got, err, remove)
	got, err = Replace(a, l, b)
	want(t, "Replace("+v+", "+p+", "+x+")", got, err, replace)
	if !reflect.DeepEqual(a, of(t, v)) || !reflect.DeepEqual(b, of(t, x)) || !slices.Equal(l, names(t, p)) {
		t.Errorf("%s, %s, %s changed: %+v, %q, %+v", v, p, x, a, l, b)
	}
}

// P7.1: of Arrays, at each end, in the middle, behind the last, and where there is none.
func TestArrays(t *testing.T) {
	wantAll(t, `[]`, "/0", `1`, `[1]`, "none", "none")
	wantAll(t, `[]`, "/-", `1`, `[1]`, "none", "none")
	wantAll(t, `[]`, "/1", `1`, "none", "none", "none")
	wantAll(t, `[1]`, "/-", `2`, `[1,2]`, "none", "none")
	wantAll(t, `[1]`, "/0", `2`, `[2,1]`, `[]`, `[2]`)
	wantAll(t, `[1]`, "/1", `2`, `[1,2]`, "none", "none")
	wantAll(t, `[1]`, "/2", `2`, "none", "none", "none")
	wantAll(t, `[1,2,3]`, "/0", `"x"`, `["x",1,2,3]`, `[2,3]`, `["x",2,3]`)
	wantAll(t, `[1,2,3]`, "/1", `"x"`, `[1,"x",2,3]`, `[1,3]`, `[1,"x",3]`)
	wantAll(t, `[1,2,3]`, "/2", `"x"`, `[1,2,"x",3]`, `[1,2]`, `[1,2,"x"]`)
	wantAll(t, `[1,2,3]`, "/3", `"x"`, `[1,2,3,"x"]`, "none", "none")
	wantAll(t, `[1,2,3]`, "/-", `"x"`, `[1,2,3,"x"]`, "none", "none")
	wantAll(t, `[1,2,3]`, "/4", `"x"`, "none", "none", "none")
	for _, name := range []string{"", "00", "01", "001", "-0", "-1", "--", "+1", " 1", "1 ", "1.0", "1e0", "a", "~0", "~1", "0x1", "1000000000000000000", "9223372036854775808", "18446744073709551616", "18446744073709551617", "4294967296"} {
		wantAll(t, `[1,2,3]`, "/"+name, `4`, "none", "none", "none")
		wantAll(t, `[]`, "/"+name, `4`, "none", "none", "none")
		wantAll(t, `{"a":[1,2,3]}`, "/a/"+name, `4`, "none", "none", "none")
		wantAll(t, `[[1,2,3]]`, "/"+name+"/0", `4`, "none", "none", "none")
	}
	wantAll(t, `[0,1,2,3,4,5,6,7,8,9,11]`, "/10", `null`, `[0,1,2,3,4,5,6,7,8,9,null,11]`, `[0,1,2,3,4,5,6,7,8,9]`, `[0,1,2,3,4,5,6,7,8,9,null]`)
	wantAll(t, `[1,1,1]`, "/1", `1`, `[1,1,1,1]`, `[1,1]`, `[1,1,1]`)
	wantAll(t, `[null]`, "/0", `null`, `[null,null]`, `[]`, `[null]`)
}

// P7.1: of Objects, ahead of, between and behind the keys that there are, and in the place of each.
func TestObjects(t *testing.T) {
	wantAll(t, `{}`, "/a", `1`, `{"a":1}`, "none", "none")
	wantAll(t, `{}`, "/", `1`, `{"":1}`, "none", "none")
	wantAll(t, `{"":2}`, "/", `1`, `{"":1}`, `{}`, `{"":1}`)
	wantAll(t, `{"b":1,"d":2}`, "/a", `3`, `{"a":3,"b":1,"d":2}`, "none", "none")
	wantAll(t, `{"b":1,"d":2}`, "/b", `3`, `{"b":3,"d":2}`, `{"d":2}`, `{"b":3,"d":2}`)
	wantAll(t, `{"b":1,"d":2}`, "/c", `3`, `{"b":1,"c":3,"d":2}`, "none", "none")
	wantAll(t, `{"b":1,"d":2}`, "/d", `3`, `{"b":1,"d":3}`, `{"b":1}`, `{"b":1,"d":3}`)
	wantAll(t, `{"b":1,"d":2}`, "/e", `3`, `{"b":1,"d":2,"e":3}`, "none", "none")
	wantAll(t, `{"b":1,"d":2}`, "/B", `3`, `{"B":3,"b":1,"d":2}`, "none", "none")
	wantAll(t, `{"b":1,"d":2}`, "/bb", `3`, `{"b":1,"bb":3,"d":2}`, "none", "none")
	wantAll(t, `{"b":1,"d":2}`, "/", `3`, `{"":3,"b":1,"d":2}`, "none", "none")
	wantAll(t, `{"a":null}`, "/a", `null`, `{"a":null}`, `{}`, `{"a":null}`)
	wantAll(t, `{"a":1}`, "/a", `{"a":1}`, `{"a":{"a":1}}`, `{}`, `{"a":{"a":1}}`)
	// Whatever a name would mean in an Array, here it is a key.
	for _, name := range []string{"", "-", "0", "00", "1", "7", "-1", "1e0", "999999999999999999", "1000000000000000000"} {
		wantAll(t, `{}`, "/"+name, `[]`, `{"`+name+`":[]}`, "none", "none")
		wantAll(t, `{"`+name+`":true}`, "/"+name, `[]`, `{"`+name+`":[]}`, `{}`, `{"`+name+`":[]}`)
		wantAll(t, `[{"`+name+`":true}]`, "/0/"+name, `[]`, `[{"`+name+`":[]}]`, `[{}]`, `[{"`+name+`":[]}]`)
	}
	wantAll(t, `{"a/b":1,"m~n":2}`, "/a~1b", `3`, `{"a/b":3,"m~n":2}`, `{"m~n":2}`, `{"a/b":3,"m~n":2}`)
	wantAll(t, `{"a/b":1,"m~n":2}`, "/m~0n", `3`, `{"a/b":1,"m~n":3}`, `{"a/b":1}`, `{"a/b":1,"m~n":3}`)
	wantAll(t, `{"~1":1}`, "/~01", `3`, `{"~1":3}`, `{}`, `{"~1":3}`)
	// Byte by byte, not by halves of pairs: U+ffff is ahead of U+10000.
	wantAll(t, "{\"\uffff\":1}", "/\U00010000", `2`, "{\"\uffff\":1,\"\U00010000\":2}", "none", "none")
	wantAll(t, "{\"\U00010000\":1}", "/\uffff", `2`, "{\"\uffff\":2,\"\U00010000\":1}", "none", "none")
	wantAll(t, "{\"\u00e9\":1}", "/e\u0301", `2`, "{\"e\u0301\":2,\"\u00e9\":1}", "none", "none")
}

// P7.1: further down, all beside the place stays.
func TestWithin(t *testing.T) {
	v := `{"a":[1,{"b":[2,[3,4]],"c":5}],"d":{"e":{"f":6}}}`
	wantAll(t, v, "/a/1/b/1/0", `7`, `{"a":[1,{"b":[2,[7,3,4]],"c":5}],"d":{"e":{"f":6}}}`, `{"a":[1,{"b":[2,[4]],"c":5}],"d":{"e":{"f":6}}}`, `{"a":[1,{"b":[2,[7,4]],"c":5}],"d":{"e":{"f":6}}}`)
	wantAll(t, v, "/a/1/b/1", `7`, `{"a":[1,{"b":[2,7,[3,4]],"c":5}],"d":{"e":{"f":6}}}`, `{"a":[1,{"b":[2],"c":5}],"d":{"e":{"f":6}}}`, `{"a":[1,{"b":[2,7],"c":5}],"d":{"e":{"f":6}}}`)
	wantAll(t, v, "/a/1/b/-", `7`, `{"a":[1,{"b":[2,[3,4],7],"c":5}],"d":{"e":{"f":6}}}`, "none", "none")
	wantAll(t, v, "/a/1/b", `7`, `{"a":[1,{"b":7,"c":5}],"d":{"e":{"f":6}}}`, `{"a":[1,{"c":5}],"d":{"e":{"f":6}}}`, `{"a":[1,{"b":7,"c":5}],"d":{"e":{"f":6}}}`)
	wantAll(t, v, "/a/1", `7`, `{"a":[1,7,{"b":[2,[3,4]],"c":5}],"d":{"e":{"f":6}}}`, `{"a":[1],"d":{"e":{"f":6}}}`, `{"a":[1,7],"d":{"e":{"f":6}}}`)
	wantAll(t, v, "/a", `7`, `{"a":7,"d":{"e":{"f":6}}}`, `{"d":{"e":{"f":6}}}`, `{"a":7,"d":{"e":{"f":6}}}`)
	wantAll(t, v, "/d/e/f", `7`, `{"a":[1,{"b":[2,[3,4]],"c":5}],"d":{"e":{"f":7}}}`, `{"a":[1,{"b":[2,[3,4]],"c":5}],"d":{"e":{}}}`, `{"a":[1,{"b":[2,[3,4]],"c":5}],"d":{"e":{"f":7}}}`)
	wantAll(t, v, "/d/e/g", `7`, `{"a":[1,{"b":[2,[3,4]],"c":5}],"d":{"e":{"f":6,"g":7}}}`, "none", "none")
	for _, p := range []string{"/b/0", "/b/-", "/a/-/b", "/a/2/b", "/a/01/b", "/a/0/-", "/a/0/0", "/a/0/", "/a/1/x/y", "/a/1/0/0", "/a/1/c/0", "/a/1/c/-", "/a/1/c/c", "/a/1/b/0/0", "/a/1/b/1/3", "/a/1/b/-/0", "/d/e/f/", "/d/e/f/-", "/d/e/g/h", "/d/x/f", "/d//e", "//a", "/x/y/z/-"} {
		wantAll(t, v, p, `7`, "none", "none", "none")
	}
}

// P7.1: the whole, whatever it is.
func TestWhole(t *testing.T) {
	all := []string{`null`, `false`, `true`, `0`, `-15e-2`, `""`, `"a"`, `[]`, `[1]`, `{}`, `{"a":[{}]}`}
	for _, v := range all {
		for _, x := range all {
			wantAll(t, v, "", x, x, "root", x)
		}
		for _, l := range [][]string{nil, {}} {
			got, err := Add(of(t, v), l, text("x"))
			want(t, "Add of "+v, got, err, `"x"`)
			got, err = Remove(of(t, v), l)
			want(t, "Remove of "+v, got, err, "root")
			got, err = Replace(of(t, v), l, text("x"))
			want(t, "Replace of "+v, got, err, `"x"`)
		}
	}
}

// P7.1: in what has neither members nor elements, there is nothing.
func TestOfPlain(t *testing.T) {
	for _, v := range []string{`null`, `false`, `true`, `0`, `12`, `-15e-2`, `""`, `"0"`, `"a"`, `"abc"`} {
		for _, p := range []string{"/", "/0", "/-", "/1", "/a", "/0/0", "/-/-", "//"} {
			wantAll(t, v, p, `9`, "none", "none", "none")
			wantAll(t, `[`+v+`]`, "/0"+p, `9`, "none", "none", "none")
			wantAll(t, `{"k":`+v+`}`, "/k"+p, `9`, "none", "none", "none")
		}
	}
}

// P7.1: what is put in may be of each Kind, and big.
func TestWhatIsPutIn(t *testing.T) {
	for _, x := range []string{`null`, `false`, `true`, `0`, `-15e-2`, `""`, `"a\u000a"`, `[]`, `[[],[1,2]]`, `{}`, `{"":{},"a":[null]}`} {
		wantAll(t, `[1,{"a":2},3]`, "/1", x, `[1,`+x+`,{"a":2},3]`, `[1,3]`, `[1,`+x+`,3]`)
		wantAll(t, `[1,{"a":2},3]`, "/1/a", x, `[1,{"a":`+x+`},3]`, `[1,{},3]`, `[1,{"a":`+x+`},3]`)
		wantAll(t, `[1,{"a":2},3]`, "/1/b", x, `[1,{"a":2,"b":`+x+`},3]`, "none", "none")
		wantAll(t, `[1,{"a":2},3]`, "/-", x, `[1,{"a":2},3,`+x+`]`, "none", "none")
	}
}

// P7.1: RFC 6902's own examples of these three.
func TestExamples(t *testing.T) {
	wantAll(t, `[1]`, "/-", `2`, `[1,2]`, "none", "none")
	wantAll(t, `{"foo":"bar"}`, "/baz", `"qux"`, `{"baz":"qux","foo":"bar"}`, "none", "none")
	wantAll(t, `{"foo":["bar","baz"]}`, "/foo/1", `"qux"`, `{"foo":["bar","qux","baz"]}`, `{"foo":["bar"]}`, `{"foo":["bar","qux"]}`)
	wantAll(t, `{"baz":"qux","foo":"bar"}`, "/baz", `"boo"`, `{"baz":"boo","foo":"bar"}`, `{"foo":"bar"}`, `{"baz":"boo","foo":"bar"}`)
	wantAll(t, `{"foo":["bar","qux","baz"]}`, "/foo/1", `1`, `{"foo":["bar",1,"qux","baz"]}`, `{"foo":["bar","baz"]}`, `{"foo":["bar",1,"baz"]}`)
	wantAll(t, `{"foo":"bar"}`, "/child", `{"grandchild":{}}`, `{"child":{"grandchild":{}},"foo":"bar"}`, "none", "none")
	wantAll(t, `{"foo":"bar"}`, "/baz/bat", `"qux"`, "none", "none", "none")
	wantAll(t, `{"foo":["bar"]}`, "/foo/-", `["abc","def"]`, `{"foo":["bar",["abc","def"]]}`, "none", "none")
}

// tree is a value that is changed where it stands, as the changes' own words have it.
type tree struct {
	plain    api.Value
	elements []*tree
	members  map[string]*tree
}

func treeOf(v api.Value) *tree {
	n := &tree{plain: v}
	for _, x := range v.L {
		n.elements = append(n.elements, treeOf(x))
	}
	if v.Kind == api.Object {
		n.members = map[string]*tree{}
	}
	for _, m := range v.M {
		n.members[m.Key] = treeOf(m.V)
	}
	return n
}

func (n *tree) value() api.Value {
	v := n.plain
	v.L, v.M = nil, nil
	for _, x := range n.elements {
		v.L = append(v.L, x.value())
	}
	for k, x := range n.members {
		v.M = append(v.M, pair(k, x.value()))
	}
	slices.SortFunc(v.M, func(a, b api.Member) int { return strings.Compare(a.Key, b.Key) })
	return v
}

// element is the place that a name means among so many, or -1.
func element(name string, many int) int {
	for i := range many {
		if strconv.Itoa(i) == name {
			return i
		}
	}
	return -1
}

// change does what is asked, and tells whether that can be.
func (n *tree) change(op int, l []string, x api.Value) bool {
	name, many := l[0], len(n.elements)
	if len(l) > 1 {
		if in, ok := n.members[name]; ok {
			return in.change(op, l[1:], x)
		}
		i := element(name, many)
		return i >= 0 && n.elements[i].change(op, l[1:], x)
	}
	if n.plain.Kind == api.Object {
		_, there := n.members[name]
		if !there && op != api.Add {
			return false
		}
		n.members[name] = treeOf(x)
		if op == api.Remove {
			delete(n.members, name)
		}
		return true
	}
	if n.plain.Kind != api.Array {
		return false
	}
	if op == api.Add {
		many++
		if name == "-" {
			name = strconv.Itoa(many - 1)
		}
	}
	i := element(name, many)
	if i < 0 {
		return false
	}
	switch op {
	case api.Add:
		n.elements = append(n.elements, nil)
		copy(n.elements[i+1:], n.elements[i:])
		n.elements[i] = treeOf(x)
	case api.Remove:
		n.elements = append(n.elements[:i], n.elements[i+1:]...)
	case api.Replace:
		n.elements[i] = treeOf(x)
	}
	return true
}

// do calls the function of an operation.
func do(op int, v api.Value, l []string, x api.Value) (api.Value, error) {
	switch op {
	case api.Add:
		return Add(v, l, x)
	case api.Remove:
		return Remove(v, l)
	}
	return Replace(v, l, x)
}

// check holds all three changes against the oracle, and tells how many could be.
func check(t *testing.T, v api.Value, l []string, x api.Value) int {
	t.Helper()
	done := 0
	for op := api.Add; op <= api.Replace; op++ {
		got, err := do(op, v, l, x)
		n, ok := treeOf(v), true
		switch {
		case len(l) > 0:
			ok = n.change(op, l, x)
		case op == api.Remove:
			want(t, "Remove of all", got, err, "root")
			continue
		default:
			n = treeOf(x)
		}
		if !ok {
			want(t, show.Show(v)+" "+ptr.Show(l), got, err, "none")
			continue
		}
		done++
		if oracle := n.value(); err != nil || !value.Same(got, oracle) || !value.May(got) {
			t.Errorf("%d: %s, %q, %s: %s (%+v), %v, want %s", op, show.Show(v), l, show.Show(x), show.Show(got), got, err, show.Show(oracle))
		}
	}
	return done
}

// keys are those that random values and pointers have; they rise.
func keys() []string { return []string{"", "-", "/", "0", "00", "1", "2", "3", "a", "~", "~1"} }

// randomValue may be; keys are often such as mean an element, too.
func randomValue(r *rand.Rand, levels int) api.Value {
	kinds := []int{api.Null, api.Bool, api.Number, api.String, api.Array, api.Object, api.Array, api.Object}
	if levels == 0 {
		kinds = kinds[:4]
	}
	v := api.Value{Kind: kinds[r.Intn(len(kinds))]}
	switch v.Kind {
	case api.Bool:
		v.B = r.Intn(2) == 0
	case api.Number:
		v.N = api.Num{Digits: strconv.Itoa(11 + 10*r.Intn(50))}
	case api.String:
		v.S = strconv.Itoa(r.Intn(50))
	case api.Array:
		// A list often has room behind it, which isn't its own.
		v.L = make([]api.Value, 0, r.Intn(5))
		for range r.Intn(4) {
			v.L = append(v.L, randomValue(r, levels-1))
		}
	case api.Object:
		v.M = make([]api.Member, 0, r.Intn(5))
		for _, k := range keys() {
			if r.Intn(4) == 0 {
				v.M = append(v.M, pair(k, randomValue(r, levels-1)))
			}
		}
	}
	return v
}

// all tells each list of names into v.
func all(v api.Value) [][]string {
	l := [][]string{{}}
	put := func(name string, x api.Value) {
		for _, on := range all(x) {
			l = append(l, append([]string{name}, on...))
		}
	}
	for i, x := range v.L {
		put(strconv.Itoa(i), x)
	}
	for _, m := range v.M {
		put(m.Key, m.V)
	}
	return l
}

// P7.1: random values, at all there is in them, and next to it.
func TestRandom(t *testing.T) {
	r := rand.New(rand.NewSource(1))
	asked, done := 0, 0
	for i := range 1500 {
		v := randomValue(r, i%5)
		x := randomValue(r, r.Intn(3))
		for _, l := range all(v) {
			asked, done = asked+3, done+check(t, v, l, x)
			for _, name := range keys() {
				asked, done = asked+3, done+check(t, v, append(slices.Clone(l), name), x)
			}
			asked, done = asked+3, done+check(t, v, append(slices.Clone(l), keys()[r.Intn(11)], keys()[r.Intn(11)]), x)
		}
	}
	if done < 10000 || asked-done < 10000 {
		t.Error("too few of one kind:", asked, done)
	}
}

// P7.1: all short pointers of chosen names into small values.
func TestAllShort(t *testing.T) {
	for _, s := range []string{`1`, `[]`, `{}`, `[1]`, `[[]]`, `[{}]`, `{"0":[]}`, `{"-":{}}`, `[[1],{"0":2}]`, `{"0":{"0":[3]},"1":[[4],5]}`, `{"":[{"":[[]]}]}`} {
		v := of(t, s)
		var on func(l []string)
		on = func(l []string) {
			check(t, v, l, digits("9"))
			for _, name := range []string{"", "-", "0", "1", "2", "00"} {
				if len(l) < 4 {
					on(append(slices.Clone(l), name))
				}
			}
		}
		on([]string{})
	}
}

// P7.3: what was added, or put in another's place, is got; and, removed again, all is as it was.
func TestAddedAndRemoved(t *testing.T) {
	r := rand.New(rand.NewSource(2))
	back := 0
	for i := range 2000 {
		v, x := randomValue(r, i%5), randomValue(r, r.Intn(3))
		for _, l := range all(v) {
			for _, name := range append(keys(), "4") {
				at := append(slices.Clone(l), name)
				old, none := ptr.Get(v, at)
				more, err := Add(v, at, x)
				if err != nil {
					continue
				}
				in, _ := ptr.Get(v, l)
				if in.Kind == api.Array && name == "-" {
					at[len(l)] = strconv.Itoa(len(in.L))
				}
				if got, err := ptr.Get(more, at); err != nil || !value.Same(got, x) {
					t.Fatalf("%s with %s at %q has %+v, %v there", show.Show(v), show.Show(x), at, got, err)
				}
				less, err := Remove(more, at)
				if err != nil {
					t.Fatalf("%s: nothing to remove at %q, %v", show.Show(more), at, err)
				}
				if in.Kind == api.Array || none != nil {
					back++
					if !value.Same(less, v) {
						t.Fatalf("%s came back as %s", show.Show(v), show.Show(less))
					}
				} else if again, err := Replace(more, at, old); err != nil || !value.Same(again, v) {
					t.Fatalf("%s came back as %s, %v", show.Show(v), show.Show(again), err)
				} else if again, err := Add(less, at, old); err != nil || !value.Same(again, v) {
					t.Fatalf("%s came back as %s, %v", show.Show(v), show.Show(again), err)
				}
			}
		}
	}
	if back < 5000 {
		t.Error("too few:", back)
	}
}

// P7.2: whatever is done behind it, each value stays as it was told.
func TestEachStays(t *testing.T) {
	r := rand.New(rand.NewSource(3))
	for i := range 150 {
		v := randomValue(r, 2+i%3)
		kept, were := []api.Value{v}, []api.Value{clone(v)}
		for range 40 {
			from := kept[r.Intn(len(kept))]
			ways := all(from)
			l := append(make([]string, 0, 20), ways[r.Intn(len(ways))]...)
			if r.Intn(2) == 0 {
				l = append(l, keys()[r.Intn(11)])
			}
			was, behind := slices.Clone(l), l[len(l):cap(l)]
			// What is put in is at times a piece of what was told before.
			x := kept[r.Intn(len(kept))]
			if value.Size(x)+value.Size(from) > 400 {
				x = randomValue(r, 1)
			}
			got, err := do(1+r.Intn(3), from, l, x)
			if !slices.Equal(l, was) || slices.ContainsFunc(behind, func(s string) bool { return s != "" }) {
				t.Fatalf("names changed: %q, were %q", l, was)
			}
			if err == nil {
				kept, were = append(kept, got), append(were, clone(got))
			}
			for k := range kept {
				if !reflect.DeepEqual(clone(kept[k]), clone(were[k])) {
					t.Fatalf("changed: %s, was %s", show.Show(kept[k]), show.Show(were[k]))
				}
			}
		}
	}
}

// P7.2: what stands behind a list that is handed in isn't changed either.
func TestBehindLists(t *testing.T) {
	for _, name := range []string{"0", "1", "2", "-", "3"} {
		for op := api.Add; op <= api.Replace; op++ {
			room := []api.Value{text("a"), text("b"), text("behind"), text("further")}
			v := array(room[:2]...)
			v.L = room[:2]
			do(op, v, []string{name}, text("x"))
			do(op, array(v), []string{"0", name}, text("x"))
			if !reflect.DeepEqual(room, []api.Value{text("a"), text("b"), text("behind"), text("further")}) {
				t.Errorf("%d at %s: %+v", op, name, room)
			}
			members := []api.Member{pair("1", text("a")), pair("3", text("b")), pair("4", text("behind")), pair("5", text("further"))}
			v = object(members[:2]...)
			v.M = members[:2]
			do(op, v, []string{name}, text("x"))
			do(op, array(v), []string{"0", name}, text("x"))
			if !reflect.DeepEqual(members, []api.Member{pair("1", text("a")), pair("3", text("b")), pair("4", text("behind")), pair("5", text("further"))}) {
				t.Errorf("%d at %s: %+v", op, name, members)
			}
		}
	}
}

// R2: nothing is kept from call to call.
func TestNothingKept(t *testing.T) {
	l := []string{"a", "b"}
	v := of(t, `{"a":{"b":1}}`)
	got, err := Replace(v, l, digits("2"))
	want(t, "Replace", got, err, `{"a":{"b":2}}`)
	l[0], l[1] = "x", "y"
	want(t, "Replace, its names changed behind it,", got, nil, `{"a":{"b":2}}`)
	got, err = Replace(v, l, digits("2"))
	want(t, "Replace", got, err, "none")
	got, err = Replace(of(t, `{"a":{"b":1}}`), []string{"a"}, digits("3"))
	want(t, "Replace", got, err, `{"a":3}`)
}

// P7.1, P1: down to the document's bound of levels.
func TestDeep(t *testing.T) {
	const levels = 1<<16 - 2
	v, l := array(), []string{}
	for k := range levels {
		if k%2 == 0 {
			v, l = array(boolean(true), v), append(l, "1")
		} else {
			v, l = object(pair("0", digits("1")), pair("1", v)), append(l, "1")
		}
	}
	at := append(slices.Clone(l), "0")
	more, err := Add(v, at, text("bottom"))
	if got, bad := ptr.Get(more, at); err != nil || bad != nil || got.S != "bottom" {
		t.Error(got.Kind, err, bad)
	}
	other, err := Replace(more, at, text("other"))
	if got, bad := ptr.Get(other, at); err != nil || bad != nil || got.S != "other" || value.Size(other) != value.Size(v)+1 {
		t.Error(got.Kind, err, bad)
	}
	if less, err := Remove(other, at); err != nil || !value.Same(less, v) {
		t.Error("it didn't come back", err)
	}
	if got, err := ptr.Get(more, at); err != nil || got.S != "bottom" {
		t.Error("changed:", got.Kind, err)
	}
	for op := api.Add; op <= api.Replace; op++ {
		got, err := do(op, v, append(slices.Clone(l), "1"), text("x"))
		want(t, "behind the bottom", got, err, "none")
		got, err = do(op, v, append(slices.Clone(at), "-"), text("x"))
		want(t, "below the bottom", got, err, "none")
	}
	far := slices.Repeat([]string{"0"}, 1<<20)
	for op := api.Add; op <= api.Replace; op++ {
		got, err := do(op, of(t, `[[1]]`), far, text("x"))
		want(t, "far below", got, err, "none")
	}
}

// P7.1: long lists, element by element.
func TestLong(t *testing.T) {
	list, members := array(), object()
	var err error
	for k := range 3000 {
		if list, err = Add(list, []string{"-"}, text(strconv.Itoa(k))); err != nil {
			t.Fatal(k, err)
		}
		// Keys come in another order than theirs.
		if members, err = Add(members, []string{strconv.Itoa(10000 + k*7%3000)}, digits("7")); err != nil {
			t.Fatal(k, err)
		}
	}
	if len(list.L) != 3000 || len(members.M) != 3000 || !value.May(list) || !value.May(members) {
		t.Fatal(len(list.L), len(members.M))
	}
	for k, x := range list.L {
		if x.S != strconv.Itoa(k) || members.M[k].Key != strconv.Itoa(10000+k) {
			t.Fatal(k, x, members.M[k])
		}
	}
	for _, name := range []string{"0", "1", "1499", "2998", "2999", "3000", "3001", "-", "10000", "12999", "13000", "9999", "11500"} {
		check(t, list, []string{name}, boolean(true))
		check(t, members, []string{name}, boolean(true))
	}
	for k := 3000; k > 0; k-- {
		list, err = Remove(list, []string{strconv.Itoa([]int{0, k / 2, k - 1}[k%3])})
		if err != nil || len(list.L) != k-1 {
			t.Fatal(k, err)
		}
	}
	want(t, "all removed", list, nil, `[]`)
}

// R2: what else is done at the same time doesn't matter.
func TestAtOnce(t *testing.T) {
	r := rand.New(rand.NewSource(4))
	v := array()
	for range 20 {
		v.L = append(v.L, randomValue(r, 3))
	}
	before, ways := clone(v), all(v)
	var workers sync.WaitGroup
	for k := range 8 {
		workers.Go(func() {
			for i, l := range ways {
				if i%8 == k || i%3 == 0 {
					check(t, v, l, v.L[k])
					check(t, v, append(slices.Clone(l), "-"), v.L[k])
				}
			}
		})
	}
	workers.Wait()
	if !reflect.DeepEqual(clone(v), clone(before)) {
		t.Error("changed")
	}
}

// P7.1, P7.2: any value, at any names.
func FuzzEdit(f *testing.F) {
	f.Add(`{"a":[1]}`, "/a/-", `2`)
	f.Add(`[1,[2]]`, "/1/0", `{}`)
	f.Add(`{"b":1}`, "/~01", `null`)
	f.Fuzz(func(t *testing.T, s, p, put string) {
		v, bad := parse.Parse(s)
		l, worse := ptr.Parse(p)
		x, worst := parse.Parse(put)
		// A key has UTF-8 alone, or its value may not be.
		if bad != nil || worse != nil || worst != nil || strings.ToValidUTF8(p, "") != p {
			return
		}
		check(t, v, l, x)
		if show.Show(v) != show.Show(of(t, s)) || show.Show(x) != show.Show(of(t, put)) {
			t.Errorf("changed: %s, %s", show.Show(v), show.Show(x))
		}
	})
}
