package merge

import (
	"maps"
	"math"
	"slices"
	"strconv"
	"strings"
	"testing"

	"socage/api"
	"socage/seen"
	"socage/stack"
	"socage/tree"
)

// made: the Stack of trees, the uppermost one last.
func made(t *testing.T, trees ...api.Node) stack.Stack {
	t.Helper()
	s, e := stack.Of(trees...)
	if e != api.OK {
		t.Fatal(e)
	}
	return s
}

// gather: all names in a tree.
func gather(n api.Node, all map[string]bool) {
	for i, x := range n.Names {
		all[x] = true
		gather(n.Items[i], all)
	}
}

// lists: List of a place, and of all that is seen below it, is what the chapter says of these names, which rise.
func lists(t *testing.T, s stack.Stack, p seen.Place, names []string) {
	t.Helper()
	var want []Entry
	for _, x := range names {
		f, ok := seen.Look(s, p, x)
		if ok {
			want = append(want, Entry{x, f.Kind})
		}
		if f.Kind == api.Dir {
			lists(t, s, f.Dirs, names)
		}
	}
	if l := List(s, p); !slices.Equal(l, want) {
		t.Fatal("List:", l, "not", want)
	}
}

// holds: List is what the chapter says, in all that is seen of these trees.
func holds(t *testing.T, trees ...api.Node) {
	t.Helper()
	all := map[string]bool{}
	for _, n := range trees {
		gather(n, all)
	}
	s := made(t, trees...)
	lists(t, s, seen.Root(s), slices.Sorted(maps.Keys(all)))
}

// opaque: n, Opaque or not.
func opaque(is bool, n api.Node) api.Node {
	if is {
		return tree.Opaque(n)
	}
	return n
}

// kinds: what may be by a name in one branch; the zero node: nothing is.
func kinds() []api.Node {
	return []api.Node{
		{},
		tree.Text("1"),
		tree.Link("b"),
		tree.White(),
		tree.Dir([]string{"x", "y"}, tree.White(), tree.Link("b")),
		tree.Opaque(tree.Dir([]string{"x", "z"}, tree.Text("1"), tree.Dir(nil))),
	}
}

// with: a directory of these, without those that are nothing.
func with(names []string, items ...api.Node) api.Node {
	n := tree.Dir(nil)
	for i, x := range items {
		if x.Kind != 0 {
			n.Names, n.Items = append(n.Names, names[i]), append(n.Items, x)
		}
	}
	return n
}

// TestAllOf: P10.1: all that three branches, or fewer, may have by one name, with others around it; and two by two names.
func TestAllOf(t *testing.T) {
	holds(t)
	var l, m []api.Node
	for _, is := range []bool{false, true} {
		for i, a := range kinds() {
			others := kinds()[i/2+1]
			l = append(l, opaque(is, with([]string{"a", "b", "c" + strconv.Itoa(i)}, others, a, others)))
			for _, b := range kinds() {
				m = append(m, opaque(is, with([]string{"a", "b"}, a, b)))
			}
		}
	}
	for _, a := range l {
		holds(t, a)
		for _, b := range l {
			holds(t, a, b)
			for _, c := range l {
				holds(t, a, b, c)
			}
		}
	}
	for _, a := range m {
		for _, b := range m {
			holds(t, a, b)
		}
	}
}

// TestDeep: P10.1: what is seen of directories that are one, below the root; and of those in them.
func TestDeep(t *testing.T) {
	var l []api.Node
	for _, a := range kinds() {
		for _, is := range []bool{false, true} {
			inner := opaque(is, with([]string{"c", "d"}, a, kinds()[4]))
			l = append(l, with([]string{"a", "b"}, tree.White(), inner))
		}
	}
	l = append(l, tree.Dir(nil), with([]string{"b"}, tree.White()), with([]string{"b"}, tree.Text("1")))
	for _, a := range l {
		for _, b := range l {
			for _, c := range l {
				holds(t, a, b, c)
			}
		}
	}
}

// TestExamples: P10.1: the chapter's example, and others, written out; the uppermost tree is the last one.
func TestExamples(t *testing.T) {
	file, link, white, dir := tree.Text("1"), tree.Link("a"), tree.White(), tree.Dir([]string{"x"}, tree.Text("1"))
	for i, x := range []struct {
		trees []api.Node
		want  []Entry
	}{
		{nil, nil},
		{[]api.Node{tree.Dir(nil)}, nil},
		{[]api.Node{with([]string{"a"}, white)}, nil},
		{[]api.Node{with([]string{"a", "b"}, file, file), with([]string{"a", "c"}, white, file)}, []Entry{{"b", api.File}, {"c", api.File}}},
		{[]api.Node{with([]string{"a", "c"}, white, file), with([]string{"a", "b"}, file, file)}, []Entry{{"a", api.File}, {"b", api.File}, {"c", api.File}}},
		{[]api.Node{with([]string{"a", "b", "c"}, file, link, dir)}, []Entry{{"a", api.File}, {"b", api.Link}, {"c", api.Dir}}},
		{[]api.Node{with([]string{"a", "b", "c"}, file, link, dir), with([]string{"a", "b", "c"}, link, dir, file)}, []Entry{{"a", api.Link}, {"b", api.Dir}, {"c", api.File}}},
		{[]api.Node{with([]string{"a", "b"}, file, file), tree.Opaque(with([]string{"c"}, link))}, []Entry{{"c", api.Link}}},
		{[]api.Node{with([]string{"a"}, file), tree.Opaque(tree.Dir(nil)), with([]string{"b", "c"}, dir, white)}, []Entry{{"b", api.Dir}}},
		{[]api.Node{with([]string{"a"}, file), with([]string{"a"}, white), with([]string{"a"}, dir)}, []Entry{{"a", api.Dir}}},
		{[]api.Node{with([]string{"a"}, file), with([]string{"a"}, white), tree.Dir(nil)}, nil},
		{[]api.Node{with([]string{"B", "a", "ab", "b", "\xff"}, file, file, file, file, file), with([]string{"A"}, link)}, []Entry{{"A", api.Link}, {"B", api.File}, {"a", api.File}, {"ab", api.File}, {"b", api.File}, {"\xff", api.File}}},
	} {
		s := made(t, x.trees...)
		if l := List(s, seen.Root(s)); !slices.Equal(l, x.want) {
			t.Error(i, "List:", l, "not", x.want)
		}
	}
	s := made(t,
		with([]string{"d"}, tree.Dir([]string{"a", "b", "c"}, file, dir, dir)),
		with([]string{"d"}, tree.Dir([]string{"b", "c", "e"}, white, link, link)),
		with([]string{"d", "e"}, tree.Dir([]string{"a"}, dir), file),
	)
	d, _ := seen.Look(s, seen.Root(s), "d")
	if l := List(s, d.Dirs); !slices.Equal(l, []Entry{{"a", api.Dir}, {"c", api.Link}, {"e", api.Link}}) {
		t.Error("List of d:", l)
	}
}

// TestLimits: P10.1: names of 64 bytes, directories 15 deep, and 64 branches of 4096 nodes each.
func TestLimits(t *testing.T) {
	long := strings.Repeat("n", 64)
	holds(t, with([]string{"n", long}, tree.Text("1"), tree.Text("1")), with([]string{long[1:], long}, tree.White(), tree.Link("n")))
	deep, white := with([]string{"a"}, tree.Text("1")), with([]string{"a"}, tree.White())
	for range 14 {
		deep, white = with([]string{"a", "b"}, deep, tree.Text("1")), with([]string{"a", "c"}, white, tree.Text("1"))
	}
	holds(t, deep, white)
	holds(t, white, deep)
	var trees []api.Node
	for k := range 64 {
		n := api.Node{Kind: api.Dir}
		for i := range 4095 {
			n.Names = append(n.Names, strconv.Itoa(1_000_000+i*64+k))
			n.Items = append(n.Items, kinds()[1+(i+k)%3])
		}
		trees = append(trees, n)
	}
	s := made(t, trees...)
	l := List(s, seen.Root(s))
	var want []Entry
	for i := range 4095 * 64 {
		if kind := kinds()[1+(i/64+i%64)%3].Kind; kind != api.White {
			want = append(want, Entry{strconv.Itoa(1_000_000 + i), kind})
		}
	}
	if !slices.Equal(l, want) {
		t.Error("List of 64 branches:", len(l), "not", len(want))
	}
	u := made(t, slices.Repeat(trees[:1], 64)...)
	if l := List(u, seen.Root(u)); len(l) != 2730 || !slices.Equal(l, List(made(t, trees[0]), seen.Place{{}})) {
		t.Error("List of 64 like branches:", len(l))
	}
}

// TestRemoved: P10.1: it is the branches' places from above that count, not their numbers.
func TestRemoved(t *testing.T) {
	trees := []api.Node{
		with([]string{"a", "b"}, tree.Text("1"), tree.Text("1")),
		with([]string{"a", "c"}, tree.Link("a"), tree.Text("1")),
		with([]string{"a", "b"}, tree.White(), tree.Dir(nil)),
	}
	s := made(t, trees...)
	for id, want := range [][]Entry{
		{{"b", api.Dir}, {"c", api.File}},
		{{"b", api.Dir}},
		{{"a", api.Link}, {"b", api.File}, {"c", api.File}},
	} {
		u, e := s.Remove(id)
		if l := List(u, seen.Root(u)); e != api.OK || !slices.Equal(l, want) {
			t.Error("List without", id, l, "not", want)
		}
	}
	if l := List(s, seen.Root(s)); !slices.Equal(l, []Entry{{"b", api.Dir}, {"c", api.File}}) {
		t.Error("List:", l)
	}
}

// entries: so many of them.
func entries(many int) []Entry {
	var l []Entry
	for i := range many {
		l = append(l, Entry{strconv.Itoa(1000 + i), 1 + i%3})
	}
	return l
}

// TestNames: P10.2: the Names, in order, whatever the entries are.
func TestNames(t *testing.T) {
	for i, x := range []struct {
		l    []Entry
		want []string
	}{
		{nil, nil},
		{[]Entry{}, nil},
		{[]Entry{{}}, []string{""}},
		{[]Entry{{"a", api.File}, {"b", api.Dir}, {"c", api.Link}}, []string{"a", "b", "c"}},
		{[]Entry{{"b", -1}, {"a", 9}, {"a", 0}, {"", 4}, {"/\x00\xff", 1}}, []string{"b", "a", "a", "", "/\x00\xff"}},
	} {
		if n := Names(x.l); !slices.Equal(n, x.want) {
			t.Error(i, "Names:", n, "not", x.want)
		}
	}
	n := Names(entries(9000))
	if len(n) != 9000 {
		t.Fatal("Names:", len(n))
	}
	for i, x := range n {
		if x != strconv.Itoa(1000+i) {
			t.Fatal("Names:", i, x)
		}
	}
}

// plainPage is what the chapter says of Page, entry by entry.
func plainPage(l []Entry, from, many int) ([]Entry, bool) {
	if from < 0 {
		from = 0
	}
	var page []Entry
	end := true
	for i, x := range l {
		if i < from {
			continue
		}
		if len(page) < many {
			page = append(page, x)
		} else {
			end = false
		}
	}
	return page, end
}

// TestPage: P10.2: from each place on, and beyond them, any number of entries.
func TestPage(t *testing.T) {
	numbers := []int{math.MinInt, math.MinInt + 1, math.MinInt32, -1 << 20, math.MaxInt32, 1 << 32, 1 << 62, math.MaxInt - 1, math.MaxInt}
	for i := -4; i < 12; i++ {
		numbers = append(numbers, i)
	}
	for many := range 8 {
		l := entries(many)
		for _, from := range numbers {
			for _, n := range numbers {
				page, end := Page(l, from, n)
				want, none := plainPage(l, from, n)
				if !slices.Equal(page, want) || end != none {
					t.Fatal("Page of", many, "from", from, n, page, end, "not", want, none)
				}
			}
		}
	}
}

// TestPages: P10.2: page behind page all entries come, and at the last one the end.
func TestPages(t *testing.T) {
	for _, many := range []int{0, 1, 2, 6, 7, 12, 4095} {
		l := entries(many)
		for n := 1; n < many+3; n++ {
			var got []Entry
			for pages := 1; ; pages++ {
				page, end := Page(l, len(got), n)
				got = append(got, page...)
				if end != (len(got) == many) || pages > many+1 {
					t.Fatal("pages of", many, n, pages, end)
				}
				if end {
					break
				}
			}
			if !slices.Equal(got, l) {
				t.Fatal("pages of", many, n)
			}
		}
	}
}

// TestPageExamples: P10.2: the edges, written out.
func TestPageExamples(t *testing.T) {
	l := []Entry{{"a", api.File}, {"b", api.Dir}, {"c", api.Link}}
	for _, x := range []struct {
		l          []Entry
		from, many int
		names      []string
		end        bool
	}{
		{nil, 0, 1, nil, true},
		{nil, 0, 0, nil, true},
		{nil, -1, -1, nil, true},
		{nil, 5, 5, nil, true},
		{l, 0, 3, []string{"a", "b", "c"}, true},
		{l, 0, 2, []string{"a", "b"}, false},
		{l, 0, 4, []string{"a", "b", "c"}, true},
		{l, 1, 1, []string{"b"}, false},
		{l, 1, 2, []string{"b", "c"}, true},
		{l, 2, 1, []string{"c"}, true},
		{l, 3, 1, nil, true},
		{l, 3, 0, nil, true},
		{l, 4, 0, nil, true},
		{l, 4, 1, nil, true},
		{l, 4, -1, nil, true},
		{l, 2, 0, nil, false},
		{l, 0, 0, nil, false},
		{l, 0, -1, nil, false},
		{l, -2, 1, []string{"a"}, false},
		{l, -2, 3, []string{"a", "b", "c"}, true},
		{l, math.MinInt, math.MaxInt, []string{"a", "b", "c"}, true},
		{l, math.MaxInt, math.MaxInt, nil, true},
		{l, 1, math.MaxInt, []string{"b", "c"}, true},
		{l, 0, math.MinInt, nil, false},
	} {
		page, end := Page(x.l, x.from, x.many)
		if !slices.Equal(Names(page), x.names) || end != x.end {
			t.Error("Page of", len(x.l), "from", x.from, x.many, page, end)
		}
	}
}

// TestHandedIn: P2: neither places nor entries are changed or kept, nor the room behind them.
func TestHandedIn(t *testing.T) {
	s := made(t, with([]string{"a", "b"}, tree.Text("1"), tree.Text("1")), with([]string{"a"}, tree.White()))
	p := append(make(seen.Place, 0, 4), seen.Root(s)...)
	p[:3][2] = seen.Spot{Level: -1, Inode: -1}
	l := List(s, p)
	if !slices.Equal(l, []Entry{{"b", api.File}}) || !slices.Equal(p[:4], seen.Place{{}, {Level: 1}, {Level: -1, Inode: -1}, {}}) {
		t.Error("List changed what was handed in:", l, p[:4])
	}
	clear(p[:4])
	if !slices.Equal(l, []Entry{{"b", api.File}}) || !slices.Equal(List(s, seen.Root(s)), l) {
		t.Error("List's answer shares what was handed in:", l)
	}
	room := entries(6)
	names := Names(room[:3])
	page, end := Page(room[:3], 1, 5)
	part, behind := Page(room[:3], 0, 2)
	if _ = append(page, Entry{"zz", 9}); !slices.Equal(room, entries(6)) || !end || behind {
		t.Error("Page changed what was handed in, or has room that was:", room)
	}
	if _ = append(part, Entry{"zz", 9}); !slices.Equal(room, entries(6)) {
		t.Error("Page's answer has room that was handed in:", room)
	}
	for _, n := range []int{-1, 0} {
		none, _ := Page(room, 2, n)
		if _ = append(none, Entry{"zz", 9}); !slices.Equal(room, entries(6)) {
			t.Error("Page's answer of none has room that was handed in:", room)
		}
	}
	clear(room)
	if !slices.Equal(names, []string{"1000", "1001", "1002"}) || !slices.Equal(page, entries(3)[1:]) || !slices.Equal(part, entries(2)) {
		t.Error("answers share what was handed in:", names, page, part)
	}
}

// TestAnswered: P2: what is answered is new each time; nothing of it is kept.
func TestAnswered(t *testing.T) {
	s := made(t, with([]string{"a", "b"}, tree.Text("1"), tree.Link("a")), with([]string{"c"}, tree.Dir(nil)))
	want := []Entry{{"a", api.File}, {"b", api.Link}, {"c", api.Dir}}
	for range 3 {
		l := List(s, seen.Root(s))
		n, m := Names(l), Names(l)
		page, _ := Page(l, 0, 3)
		other, _ := Page(l, 0, 3)
		if !slices.Equal(l, want) || !slices.Equal(n, []string{"a", "b", "c"}) || !slices.Equal(page, want) {
			t.Fatal("answers:", l, n, page)
		}
		clear(page)
		clear(n)
		if !slices.Equal(l, want) || !slices.Equal(other, want) || !slices.Equal(m, []string{"a", "b", "c"}) {
			t.Error("answers share memory:", l, other, m)
		}
		clear(l)
	}
	if s.Len() != 2 || !slices.Equal(seen.Root(s), seen.Place{{}, {Level: 1}}) || !slices.Equal(s.At(0).Names(0), []string{"c"}) {
		t.Error("List changed the Stack")
	}
}

// TestApart: P2: List of one Stack hangs on no other one.
func TestApart(t *testing.T) {
	a := made(t, with([]string{"a"}, tree.Text("1")))
	b := made(t, with([]string{"a"}, tree.Text("1")), with([]string{"a", "b"}, tree.White(), tree.Link("a")))
	for range 2 {
		l, m := List(a, seen.Root(a)), List(b, seen.Root(b))
		if !slices.Equal(l, []Entry{{"a", api.File}}) || !slices.Equal(m, []Entry{{"b", api.Link}}) {
			t.Error("List:", l, m)
		}
	}
}

// TestTypes: rule 6: two Entries are compared by ==.
func TestTypes(t *testing.T) {
	if (Entry{"a", 1}) != (Entry{Name: "a", Kind: 1}) || (Entry{"a", 1}) == (Entry{"a", 2}) || (Entry{"a", 1}) == (Entry{"b", 1}) {
		t.Error("Entry")
	}
}

// TestAllArguments: P1: all calls end, and none panics, whatever the places and entries; nothing is listed where nothing is.
func TestAllArguments(t *testing.T) {
	numbers := []int{math.MinInt, -1 << 32, -1, 0, 1, 2, 3, 4, 63, 64, 4096, 1 << 31, math.MaxInt}
	odd, _, _ := stack.Stack{}.Add(nil)
	some := made(t, with([]string{"a", "b"}, tree.Dir([]string{"x"}, tree.White()), tree.White()), with([]string{"a"}, tree.Text("1")))
	for _, s := range []stack.Stack{{}, odd, some} {
		if len(List(s, nil)) != 0 || len(List(s, seen.Place{})) != 0 {
			t.Error("List of no directory")
		}
		List(s, slices.Repeat(seen.Place{{}, {Level: 1}, {Level: 1, Inode: 1}, {Level: 2}, {Inode: 7}}, 1000))
		for _, k := range numbers {
			for _, i := range numbers {
				d := seen.Spot{Level: k, Inode: i}
				l := List(s, seen.Place{d})
				List(s, seen.Place{{Level: 1}, d, d, {}})
				if (k < 0 || k >= s.Len() || i < 0 || i > 3) && len(l) != 0 {
					t.Error("List of", d, l)
				}
			}
		}
	}
	for _, l := range [][]Entry{nil, {{}}, {{"b", math.MinInt}, {"a", math.MaxInt}, {"a", 0}}} {
		Names(l)
		for _, from := range numbers {
			for _, many := range numbers {
				Page(l, from, many)
			}
		}
	}
}
