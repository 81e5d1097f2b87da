package faults

import (
	"fmt"
	"math/rand"
	"slices"
	"strings"
	"sync"
	"testing"

	"doublet/api"
)

// f is a fault.
func f(instance, schema, keyword string) api.Fault {
	return api.Fault{Instance: instance, Schema: schema, Keyword: keyword}
}

// above is whether a is above b, by the chapter's words.
func above(a, b api.Fault) bool {
	if a.Instance != b.Instance {
		return textAbove(a.Instance, b.Instance)
	}
	if a.Schema != b.Schema {
		return textAbove(a.Schema, b.Schema)
	}
	return textAbove(a.Keyword, b.Keyword)
}

// textAbove is whether a is greater than b, byte by byte.
func textAbove(a, b string) bool {
	for i := range len(a) {
		if i == len(b) {
			return true
		}
		if a[i] != b[i] {
			return a[i] > b[i]
		}
	}
	return false
}

// raised are all faults of the lists, rising, each once: over and over the least that is above the last.
func raised(lists ...[]api.Fault) []api.Fault {
	var told []api.Fault
	for {
		var least *api.Fault
		for _, l := range lists {
			for _, x := range l {
				isNew := len(told) == 0 || above(x, told[len(told)-1])
				if isNew && (least == nil || above(*least, x)) {
					least = &x
				}
			}
		}
		if least == nil {
			return told
		}
		told = append(told, *least)
	}
}

// wantSorted asks for a list's faults as they are told: P13.1.
func wantSorted(t *testing.T, l, want []api.Fault) {
	t.Helper()
	if got := Sort(l); !slices.Equal(got, want) {
		t.Errorf("Sort(%.2000q) = %.2000q, want %.2000q", l, got, want)
	}
}

// wantMerged asks for both lists' faults as they are told, whichever is first: P13.1, P13.3.
func wantMerged(t *testing.T, a, b, want []api.Fault) {
	t.Helper()
	for range 2 {
		if got := Merge(a, b); !slices.Equal(got, want) {
			t.Errorf("Merge(%.2000q, %.2000q) = %.2000q, want %.2000q", a, b, got, want)
		}
		a, b = b, a
	}
	if got := Sort(slices.Concat(a, b)); !slices.Equal(got, want) {
		t.Errorf("Sort of both, %.2000q and %.2000q = %.2000q, want %.2000q", a, b, got, want)
	}
}

// wantUnder asks for a list under a name, of which the pointer is told: P13.1.
func wantUnder(t *testing.T, name, pointer string, l []api.Fault) {
	t.Helper()
	var want []api.Fault
	for _, x := range l {
		want = append(want, f(pointer+x.Instance, x.Schema, x.Keyword))
	}
	if got := Under(name, l); !slices.Equal(got, want) {
		t.Errorf("Under(%.300q, %.2000q) = %.2000q, want %.2000q", name, l, got, want)
	}
}

// texts are texts that rise byte by byte, though not by their names, numbers or letters.
func texts() []string {
	return []string{"", "\x00", "\x00\x00", " ", "#", "-", "/", "/\x00", "/ ", "/-", "//", "/0", "/00", "/1", "/10", "/10/a", "/1a", "/2", "/A", "/B", "/Z",
		"/a", "/a\x00", "/a b", "/a-b", "/a.b", "/a/", "/a/b", "/a/b/c", "/a0", "/aB", "/ab", "/a~0", "/a~1", "/b", "/b/a", "/{", "/~", "/~0", "/~01", "/~1",
		"/\x7f", "/\x80", "/\xc3", "/é", "/ü", "/\xc3\xff", "/€", "/\uffff", "/😀", "/\xff", "0", "A", "a", "a/", "aa", "~", "é", "\xff", "\xff\xff"}
}

// P13.1: Sort, of few.
func TestSort(t *testing.T) {
	a, b, c := f("/a", "/items/type", "type"), f("/b", "/items/type", "type"), f("/c", "", "false")
	wantSorted(t, nil, nil)
	wantSorted(t, []api.Fault{}, nil)
	wantSorted(t, []api.Fault{{}}, []api.Fault{{}})
	wantSorted(t, []api.Fault{a}, []api.Fault{a})
	for _, l := range [][]api.Fault{{a, b, c}, {a, c, b}, {b, a, c}, {b, c, a}, {c, a, b}, {c, b, a}} {
		wantSorted(t, l, []api.Fault{a, b, c})
	}
	// The example of a list's own order: by Instance, then Schema, then Keyword.
	wantSorted(t, []api.Fault{f("/1", "/a", "a"), f("/0", "/b", "b"), f("/0", "/b", "a"), f("/0", "/a", "z"), f("", "/z", "z")},
		[]api.Fault{f("", "/z", "z"), f("/0", "/a", "z"), f("/0", "/b", "a"), f("/0", "/b", "b"), f("/1", "/a", "a")})
	// Each once, next to itself or not.
	wantSorted(t, []api.Fault{a, a}, []api.Fault{a})
	wantSorted(t, []api.Fault{b, b, a, b, a, a, b}, []api.Fault{a, b})
	wantSorted(t, []api.Fault{{}, a, {}, a, {}}, []api.Fault{{}, a})
}

// P13.1: which of two is above the other, field by field, byte by byte.
func TestOrder(t *testing.T) {
	l := texts()
	for i, low := range l {
		for _, high := range l[i+1:] {
			for _, c := range [][2]api.Fault{
				// By each field, the others being the same.
				{f(low, "x", "x"), f(high, "x", "x")}, {f("x", low, "x"), f("x", high, "x")}, {f("x", "x", low), f("x", "x", high)},
				{f(low, "", ""), f(high, "", "")}, {f("", low, ""), f("", high, "")}, {f("", "", low), f("", "", high)},
				// By the first one that isn't the same, whatever those behind it are.
				{f(low, high, high), f(high, low, low)}, {f(low, high, ""), f(high, low, "")}, {f(low, "", high), f(high, "", low)}, {f("", low, high), f("", high, low)},
				// Field by field, not as one text of all.
				{f("", low+"a", high), f("\x00", low, high)}, {f(low, high+"a", ""), f(low+"\x00", high, "")}, {f("", "", low+high+"a"), f("", "\x00", "")},
			} {
				wantSorted(t, []api.Fault{c[0], c[1]}, []api.Fault{c[0], c[1]})
				wantSorted(t, []api.Fault{c[1], c[0]}, []api.Fault{c[0], c[1]})
				wantMerged(t, []api.Fault{c[0]}, []api.Fault{c[1]}, []api.Fault{c[0], c[1]})
				wantMerged(t, []api.Fault{c[0], c[1]}, []api.Fault{c[1]}, []api.Fault{c[0], c[1]})
			}
		}
	}
}

// P13.1: faults that have nearly the same texts are not one.
func TestNotTheSame(t *testing.T) {
	for _, l := range [][]api.Fault{
		{f("", "", "a"), f("", "a", ""), f("a", "", "")},
		{f("", "", "ab"), f("", "a", "b"), f("", "ab", ""), f("a", "", "b"), f("a", "b", ""), f("ab", "", "")},
		{f("/a", "/b", "c"), f("/a", "/c", "b"), f("/b", "/a", "c"), f("/b", "/c", "a"), f("/c", "/a", "b"), f("/c", "/b", "a")},
		{f("/A", "", ""), f("/a", "", "")}, {f("/0", "", ""), f("/00", "", "")}, {f("/a", "", ""), f("/a/", "", "")}, {f("/~", "", ""), f("/~0", "", "")},
		{f("/e\u0301", "", ""), f("/\u00e9", "", "")}, {f("/\xfe", "", ""), f("/\xff", "", "")}, {f("", "", "type"), f("", "", "types")},
	} {
		wantSorted(t, l, l)
		back := slices.Clone(l)
		slices.Reverse(back)
		wantSorted(t, back, l)
		for i := range l {
			wantMerged(t, l[:i], l[i:], l)
			wantMerged(t, l[:i+1], l[i:], l)
		}
	}
}

// P13.1: Merge, of few.
func TestMerge(t *testing.T) {
	a, b, c, d := f("", "/type", "type"), f("/a", "/items/type", "type"), f("/a", "/not", "not"), f("/b", "", "false")
	wantMerged(t, nil, nil, nil)
	wantMerged(t, []api.Fault{}, nil, nil)
	wantMerged(t, []api.Fault{a}, nil, []api.Fault{a})
	wantMerged(t, []api.Fault{a, b, c, d}, nil, []api.Fault{a, b, c, d})
	wantMerged(t, []api.Fault{a, b}, []api.Fault{c, d}, []api.Fault{a, b, c, d})
	wantMerged(t, []api.Fault{a, c}, []api.Fault{b, d}, []api.Fault{a, b, c, d})
	wantMerged(t, []api.Fault{a, d}, []api.Fault{b, c}, []api.Fault{a, b, c, d})
	wantMerged(t, []api.Fault{b}, []api.Fault{a, c, d}, []api.Fault{a, b, c, d})
	// What is in both is there once.
	wantMerged(t, []api.Fault{a}, []api.Fault{a}, []api.Fault{a})
	wantMerged(t, []api.Fault{a, b, c, d}, []api.Fault{a, b, c, d}, []api.Fault{a, b, c, d})
	wantMerged(t, []api.Fault{a, b}, []api.Fault{b, c}, []api.Fault{a, b, c})
	wantMerged(t, []api.Fault{a, d}, []api.Fault{a, b, d}, []api.Fault{a, b, d})
	wantMerged(t, []api.Fault{{}}, []api.Fault{{}, a}, []api.Fault{{}, a})
}

// P13.1: Under, of names of all kinds; the list stays in its order, whatever that is.
func TestUnder(t *testing.T) {
	lists := [][]api.Fault{nil, {}, {{}}, {f("", "/type", "type")}, {f("", "", "false"), f("/0", "/items/type", "type"), f("/0/a~1b", "/items", "x")},
		{f("/b", "/y", "b"), f("/a", "/x", "a"), f("/b", "/y", "b"), f("", "", ""), f("", "", "")}, {f("a", "~", "/"), f("\xff", "\x00", "é")}}
	for name, pointer := range map[string]string{"a": "/a", "": "/", "0": "/0", "10": "/10", "-": "/-", "a/b": "/a~1b", "/": "/~1", "//": "/~1~1", "~": "/~0", "~1": "/~01", "~0": "/~00", "a/~": "/a~1~0", "~/": "/~0~1",
		" ": "/ ", "é": "/é", "\xff": "/\xff", "\x00": "/\x00", "#": "/#", "%": "/%", `"`: `/"`, "a b": "/a b", "$ref": "/$ref"} {
		for _, l := range lists {
			wantUnder(t, name, pointer, l)
		}
	}
	// Of names within one another the outer one is ahead.
	got := Under("a/b", Under("0", []api.Fault{f("/~0", "/x", "y"), f("", "/x", "y")}))
	if want := []api.Fault{f("/a~1b/0/~0", "/x", "y"), f("/a~1b/0", "/x", "y")}; !slices.Equal(got, want) {
		t.Errorf("under two names: %q, want %q", got, want)
	}
}

// few are faults that rise: each choice of two texts for each field.
func few() []api.Fault {
	var l []api.Fault
	for i := range 8 {
		l = append(l, f([]string{"", "/a"}[i>>2], []string{"", "/a"}[i>>1&1], []string{"", "a"}[i&1]))
	}
	return l
}

// P13.1: all lists of up to five of these faults, in any order, each as often as it may be.
func TestSortAllSmall(t *testing.T) {
	all := few()
	lists := [][]api.Fault{nil}
	for range 5 {
		var longer [][]api.Fault
		for _, l := range lists {
			wantSorted(t, l, raised(l))
			for _, x := range all {
				longer = append(longer, append(slices.Clone(l), x))
			}
		}
		lists = longer
	}
	for _, l := range lists {
		wantSorted(t, l, raised(l))
	}
}

// P13.1, P13.3: each two lists that rise, of these faults.
func TestMergeAllSmall(t *testing.T) {
	all := few()
	chosen := func(bits int) []api.Fault {
		var l []api.Fault
		for i, x := range all {
			if bits>>i&1 == 1 {
				l = append(l, x)
			}
		}
		return l
	}
	for i := range 1 << len(all) {
		for j := range 1 << len(all) {
			if got, want := Merge(chosen(i), chosen(j)), chosen(i|j); !slices.Equal(got, want) {
				t.Fatalf("Merge(%q, %q) = %q, want %q", chosen(i), chosen(j), got, want)
			}
		}
	}
}

// random is a list of n faults at most, of texts among the first few of those that are shuffled.
func random(r *rand.Rand, n int) []api.Fault {
	from := texts()
	r.Shuffle(len(from), func(i, j int) { from[i], from[j] = from[j], from[i] })
	from = from[:1+r.Intn(len(from))]
	var l []api.Fault
	for range r.Intn(n + 1) {
		l = append(l, f(from[r.Intn(len(from))], from[r.Intn(len(from))], from[r.Intn(len(from))]))
	}
	return l
}

// P13.1, P13.3: many lists.
func TestRandom(t *testing.T) {
	r := rand.New(rand.NewSource(1))
	for range 5000 {
		a, b := random(r, 40), random(r, 40)
		sa, sb := raised(a), raised(b)
		wantSorted(t, a, sa)
		wantSorted(t, sa, sa)
		wantMerged(t, sa, sb, raised(a, b))
		name := texts()[r.Intn(len(texts()))]
		wantUnder(t, name, "/"+strings.NewReplacer("~", "~0", "/", "~1").Replace(name), a)
		// What rises still rises under a name.
		wantSorted(t, Under(name, sa), Under(name, sa))
	}
}

// numbered are n faults that rise, from one number on.
func numbered(from, n int) []api.Fault {
	var l []api.Fault
	for i := from; i < from+n; i++ {
		l = append(l, f(fmt.Sprintf("/%07d", i/4), fmt.Sprintf("/items/%d", i/2%2), fmt.Sprint(i%2)))
	}
	return l
}

// P1: long lists, in whatever order they are, and long texts.
func TestLong(t *testing.T) {
	const n = 200000
	l := numbered(0, n)
	wantSorted(t, l, l)
	back := slices.Clone(l)
	slices.Reverse(back)
	wantSorted(t, back, l)
	mixed := slices.Concat(l, back, l[n/2:], l[:n/2])
	rand.New(rand.NewSource(2)).Shuffle(len(mixed), func(i, j int) { mixed[i], mixed[j] = mixed[j], mixed[i] })
	wantSorted(t, mixed, l)
	wantSorted(t, slices.Repeat(l[7:8], n), l[7:8])
	wantMerged(t, l[:n/2], l[n/3:], l)
	wantMerged(t, l[:1], l[1:], l)
	wantUnder(t, "/", "/~1", l)

	long := strings.Repeat("/a~0", 100000)
	deep := []api.Fault{f(long, "", ""), f(long+"/", "", ""), f(long+"a", "", long), f(long+"a", long, "")}
	wantSorted(t, []api.Fault{deep[3], deep[1], deep[2], deep[0], deep[3]}, deep)
	wantMerged(t, deep[:2], deep[1:], deep)
	wantUnder(t, strings.Repeat("~", 100000), "/"+strings.Repeat("~0", 100000), deep)
}

// P1: lists that don't rise are merged to something, and to nothing that wasn't there.
func TestMergeOfAny(t *testing.T) {
	r := rand.New(rand.NewSource(3))
	for range 2000 {
		a, b := random(r, 20), random(r, 20)
		for _, x := range Merge(a, b) {
			if !slices.Contains(a, x) && !slices.Contains(b, x) {
				t.Fatalf("Merge(%q, %q) has %q", a, b, x)
			}
		}
	}
}

// P13.2: what is handed in isn't changed, nor what stands behind it.
func TestNothingChanged(t *testing.T) {
	r := rand.New(rand.NewSource(4))
	for k := range 3000 {
		a, b := random(r, 20), random(r, 20)
		if k%2 == 0 {
			a, b = raised(a), raised(b)
		}
		behind := slices.Repeat([]api.Fault{f("behind", "behind", "behind")}, 50)
		roomA, roomB := slices.Concat(a, behind), slices.Concat(b, behind)
		wantA, wantB := slices.Clone(roomA), slices.Clone(roomB)
		Sort(roomA[:len(a)])
		Merge(roomA[:len(a)], roomB[:len(b)])
		Under("x", roomA[:len(a)])
		if !slices.Equal(roomA, wantA) || !slices.Equal(roomB, wantB) {
			t.Fatalf("changed: %q, %q", a, b)
		}
		// Two parts of one list.
		Merge(roomA[:len(a)/2], roomA[len(a)/2:len(a)])
		Merge(roomA[:len(a)], roomA[:len(a)])
		if !slices.Equal(roomA, wantA) {
			t.Fatalf("changed: %q", a)
		}
	}
}

// P13.2: what is told is new memory: what happens to it happens to nothing else, and the other way round.
func TestTellingAnew(t *testing.T) {
	other := f("other", "other", "other")
	for _, n := range []int{1, 2, 3, 20} {
		l := numbered(0, n)
		for name, tell := range map[string]func(l []api.Fault) []api.Fault{
			"Sort":            Sort,
			"Merge with none": func(l []api.Fault) []api.Fault { return Merge(l, nil) },
			"Merge of none":   func(l []api.Fault) []api.Fault { return Merge(nil, l) },
			"Merge of both":   func(l []api.Fault) []api.Fault { return Merge(l, l) },
			"Merge of parts":  func(l []api.Fault) []api.Fault { return Merge(l[:n/2], l[n/2:]) },
			"Merge of few":    func(l []api.Fault) []api.Fault { return Merge(l, l[:1]) },
			"Under":           func(l []api.Fault) []api.Fault { return Under("x", l) },
		} {
			in := slices.Grow(slices.Clone(l), n)
			first, second := tell(in), tell(in)
			want := slices.Clone(second)
			for i := range first {
				first[i] = other
			}
			_ = append(first, other)
			if !slices.Equal(in, l) || slices.Contains(in[:cap(in)], other) {
				t.Errorf("%s of %d: what was told is what was handed in", name, n)
			}
			if !slices.Equal(second, want) || slices.Contains(second[:cap(second)], other) {
				t.Errorf("%s of %d: one list is told twice", name, n)
			}
			for i := range in {
				in[i] = other
			}
			if !slices.Equal(second, want) {
				t.Errorf("%s of %d: what was handed in is what was told", name, n)
			}
			if third := tell(slices.Clone(l)); !slices.Equal(third, want) {
				t.Errorf("%s of %d: %q, once more %q", name, n, want, third)
			}
		}
	}
}

// R2: what else is asked at the same time doesn't matter.
func TestAtOnce(t *testing.T) {
	r := rand.New(rand.NewSource(5))
	shared := random(r, 60)
	a, b := raised(random(r, 60)), raised(random(r, 60))
	wantAll, wantBoth := raised(shared), raised(a, b)
	var askers sync.WaitGroup
	for range 8 {
		askers.Go(func() {
			for range 200 {
				wantSorted(t, shared, wantAll)
				wantMerged(t, a, b, wantBoth)
				wantUnder(t, "/~", "/~1~0", shared)
			}
		})
	}
	askers.Wait()
}

// P13.1, P13.3: lists made of any text.
func FuzzMerge(f *testing.F) {
	f.Add("/a,/b,type;/a,,;/a,/b,type", ";,,;/é,/x,y", "a/b~")
	f.Add("", ",,", "")
	f.Fuzz(func(t *testing.T, s, u, name string) {
		a, b := faultsOf(s), faultsOf(u)
		wantSorted(t, a, raised(a))
		wantMerged(t, raised(a), raised(b), raised(a, b))
		wantUnder(t, name, "/"+strings.NewReplacer("~", "~0", "/", "~1").Replace(name), a)
	})
}

// faultsOf are faults between ;, their fields between commas.
func faultsOf(s string) []api.Fault {
	var l []api.Fault
	for _, part := range strings.Split(s, ";") {
		fields := append(strings.SplitN(part, ",", 3), "", "")
		l = append(l, f(fields[0], fields[1], fields[2]))
	}
	return l
}
