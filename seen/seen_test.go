package seen

import (
	"math"
	"slices"
	"strings"
	"testing"

	"socage/api"
	"socage/branch"
	"socage/stack"
	"socage/tree"
)

// made: the Stack of trees, the uppermost one first.
func made(t *testing.T, down []api.Node) stack.Stack {
	t.Helper()
	up := slices.Clone(down)
	slices.Reverse(up)
	s, e := stack.Of(up...)
	if e != api.OK {
		t.Fatal(e)
	}
	return s
}

// plainNode: the node of that number: 0 is the root, and what is in a node is behind it.
func plainNode(n api.Node, i int) api.Node {
	if i == 0 {
		return n
	}
	at := 1
	for _, x := range n.Items {
		if c := tree.Count(x); i < at+c {
			return plainNode(x, i-at)
		} else {
			at += c
		}
	}
	return api.Node{}
}

// plainEntry: the number of the entry of that name of the directory of that number; false: it has none.
func plainEntry(root api.Node, dir int, name string) (int, bool) {
	n, at := plainNode(root, dir), dir+1
	for k, x := range n.Names {
		if x == name {
			return at, true
		}
		at += tree.Count(n.Items[k])
	}
	return 0, false
}

// plainRoot is what the chapter says of Root.
func plainRoot(down []api.Node) Place {
	var p Place
	for k, n := range down {
		p = append(p, Spot{k, 0})
		if n.Opaque {
			break
		}
	}
	return p
}

// plainLook is what the chapter says of Look, word by word.
func plainLook(down []api.Node, p Place, name string) (Found, bool) {
	var have []Spot
	for _, d := range p {
		if i, ok := plainEntry(down[d.Level], d.Inode, name); ok {
			have = append(have, Spot{d.Level, i})
		}
	}
	node := func(x Spot) api.Node { return plainNode(down[x.Level], x.Inode) }
	if len(have) == 0 || node(have[0]).Kind == api.White {
		return Found{}, false
	}
	first := have[0]
	if k := node(first).Kind; k == api.File || k == api.Link {
		return Found{Kind: k, Spot: first}, true
	}
	f := Found{Kind: api.Dir, Spot: first, Dirs: Place{first}}
	for i := 1; i < len(have) && !node(have[i-1]).Opaque && node(have[i]).Kind == api.Dir; i++ {
		f.Dirs = append(f.Dirs, have[i])
	}
	return f, true
}

// like: two that were found are the same.
func like(a, b Found) bool {
	return a.Kind == b.Kind && a.Spot == b.Spot && slices.Equal(a.Dirs, b.Dirs)
}

// looks: Look of all these names, in a place and in all that is seen below it, is what the chapter says.
func looks(t *testing.T, down []api.Node, s stack.Stack, p Place, names []string) {
	t.Helper()
	for _, x := range names {
		f, ok := Look(s, p, x)
		g, there := plainLook(down, p, x)
		if !like(f, g) || ok != there {
			t.Fatalf("Look of %q in %v: %v, %v, not %v, %v", x, p, f, ok, g, there)
		}
		if len(f.Dirs) > 0 {
			looks(t, down, s, f.Dirs, names)
		}
	}
}

// holds: Root is what the chapter says, and Look in all that is seen.
func holds(t *testing.T, down []api.Node, names []string) {
	t.Helper()
	s := made(t, down)
	p := Root(s)
	if !slices.Equal(p, plainRoot(down)) {
		t.Fatal("Root:", p, "not", plainRoot(down))
	}
	looks(t, down, s, p, names)
}

// dir: a directory of entries, opaque or not.
func dir(opaque bool, names []string, items ...api.Node) api.Node {
	n := tree.Dir(names, items...)
	if opaque {
		return tree.Opaque(n)
	}
	return n
}

// kinds: what may be by a name in one branch; by which number it is told what is in a directory. The zero node: nothing is.
func kinds(name string) []api.Node {
	own := []string{"k", "k" + name}
	return []api.Node{
		{},
		tree.Text(name),
		tree.Link(name),
		tree.White(),
		dir(false, own, tree.Text(name), tree.Link(name)),
		dir(true, own, tree.Text(name), tree.Dir(nil)),
	}
}

// roots: all roots that may have an entry b; ahead of it they have others, as many as level says.
func roots(level int) []api.Node {
	var l []api.Node
	for _, opaque := range []bool{false, true} {
		for _, x := range kinds("b") {
			var names []string
			var items []api.Node
			for i := range level {
				names, items = append(names, "a"+string(rune('0'+i))), append(items, tree.White())
			}
			if x.Kind != 0 {
				names, items = append(names, "b"), append(items, x)
			}
			l = append(l, dir(opaque, names, items...))
		}
	}
	return l
}

// TestAllOf: P8.1, P8.2: all that four branches, or fewer, may have by a name.
func TestAllOf(t *testing.T) {
	names := []string{"b", "k", "kb", "a0", "c"}
	holds(t, nil, names)
	for _, a := range roots(0) {
		holds(t, []api.Node{a}, names)
		for _, b := range roots(1) {
			holds(t, []api.Node{a, b}, names)
			for _, c := range roots(2) {
				holds(t, []api.Node{a, b, c}, names)
				for _, d := range roots(3) {
					holds(t, []api.Node{a, b, c, d}, names)
				}
			}
		}
	}
}

// TestDeep: P8.2: of directories that are one, what is in those, and what is in these.
func TestDeep(t *testing.T) {
	var l []api.Node
	for _, x := range kinds("c") {
		for _, opaque := range []bool{false, true} {
			inner := dir(opaque, nil)
			if x.Kind != 0 {
				inner = dir(opaque, []string{"c"}, x)
			}
			l = append(l, tree.Dir([]string{"a", "b"}, tree.White(), inner))
		}
	}
	l = append(l, tree.Dir(nil), tree.Dir([]string{"b"}, tree.White()), tree.Dir([]string{"b"}, tree.Text("b")))
	names := []string{"a", "b", "c", "k", "kc"}
	for _, a := range l {
		for _, b := range l {
			for _, c := range l {
				holds(t, []api.Node{a, b, c}, names)
			}
		}
	}
}

// under: trees whose root has one entry a, from above; the zero node: none.
func under(items ...api.Node) []api.Node {
	var l []api.Node
	for _, x := range items {
		if x.Kind == 0 {
			l = append(l, tree.Dir(nil))
		} else {
			l = append(l, tree.Dir([]string{"a"}, x))
		}
	}
	return l
}

// TestExamples: P8.2: what hides what, case by case.
func TestExamples(t *testing.T) {
	file, link, white, none := tree.Text("1"), tree.Link("b"), tree.White(), api.Node{}
	plain, opaque := tree.Dir(nil), tree.Opaque(tree.Dir(nil))
	for i, x := range []struct {
		down  []api.Node
		kind  int
		level int
		dirs  []int
	}{
		{under(), 0, 0, nil},
		{under(none), 0, 0, nil},
		{under(white), 0, 0, nil},
		{under(white, file), 0, 0, nil},
		{under(none, white, plain), 0, 0, nil},
		{under(file), api.File, 0, nil},
		{under(none, file, plain), api.File, 1, nil},
		{under(link, plain), api.Link, 0, nil},
		{under(none, none, link), api.Link, 2, nil},
		{under(plain), api.Dir, 0, []int{0}},
		{under(opaque), api.Dir, 0, []int{0}},
		{under(plain, white, plain), api.Dir, 0, []int{0}},
		{under(plain, file, plain), api.Dir, 0, []int{0}},
		{under(plain, link, plain), api.Dir, 0, []int{0}},
		{under(plain, none, plain), api.Dir, 0, []int{0, 2}},
		{under(none, plain, none, plain, none), api.Dir, 1, []int{1, 3}},
		{under(plain, opaque, plain), api.Dir, 0, []int{0, 1}},
		{under(opaque, plain), api.Dir, 0, []int{0}},
		{under(none, opaque, plain), api.Dir, 1, []int{1}},
		{under(plain, none, opaque, plain, opaque), api.Dir, 0, []int{0, 2}},
		{under(plain, plain, white, plain), api.Dir, 0, []int{0, 1}},
		{under(plain, none, white, plain), api.Dir, 0, []int{0}},
	} {
		s := made(t, x.down)
		f, ok := Look(s, Root(s), "a")
		want := Found{Kind: x.kind, Dirs: nil}
		if x.kind != 0 {
			want.Spot = Spot{x.level, 1}
		}
		for _, k := range x.dirs {
			want.Dirs = append(want.Dirs, Spot{k, 1})
		}
		if !like(f, want) || ok != (x.kind != 0) {
			t.Error(i, f, ok, "not", want)
		}
	}
}

// TestRoot: P8.1: roots, as far as none above is opaque; the first opaque one too.
func TestRoot(t *testing.T) {
	for n := range 7 {
		for mask := range 1 << n {
			var down []api.Node
			want := n
			for k := range n {
				down = append(down, dir(mask>>k&1 == 1, []string{"a"}, tree.White()))
				if mask>>k&1 == 1 && want == n {
					want = k + 1
				}
			}
			p := Root(made(t, down))
			if len(p) != want {
				t.Fatalf("Root of %b: %v", mask, p)
			}
			for k, x := range p {
				if x != (Spot{k, 0}) {
					t.Fatalf("Root of %b: %v", mask, p)
				}
			}
		}
	}
}

// TestNames: P8.2: names are whole texts, byte by byte.
func TestNames(t *testing.T) {
	long := strings.Repeat("n", 64)
	down := []api.Node{
		tree.Dir([]string{"a", "ab", "b\xff", long}, tree.White(), tree.Text("1"), tree.Dir(nil), tree.Dir([]string{"x"}, tree.Text("1"))),
		tree.Dir([]string{"A", "a", "abc", "b", long}, tree.Text("1"), tree.Text("1"), tree.Dir(nil), tree.Link("a"), tree.Dir([]string{"y"}, tree.White())),
	}
	holds(t, down, []string{"", "A", "a", "ab", "abc", "abcd", "b", "b\xff", "b\xfe", ".", "..", "/", "/a", "a/", "a\x00", long, long + "n", long[1:], long + "/x", "x", "y"})
	s := made(t, down)
	for _, x := range []string{"", ".", "..", "/", long + "/x", long + "n"} {
		if f, ok := Look(s, Root(s), x); ok || !like(f, Found{}) {
			t.Errorf("Look of %q: %v", x, f)
		}
	}
}

// TestLimits: P8.1, P8.2: of 64 branches, all roots, and all entries that are one; then with one among them that ends it.
func TestLimits(t *testing.T) {
	var down []api.Node
	for range 64 {
		down = append(down, tree.Dir([]string{"a", "b"}, tree.White(), tree.Dir([]string{"c"}, tree.Dir(nil))))
	}
	names := []string{"a", "b", "c", "d"}
	holds(t, down, names)
	s := made(t, down)
	p := Root(s)
	b, ok := Look(s, p, "b")
	c, there := Look(s, b.Dirs, "c")
	if len(p) != 64 || len(b.Dirs) != 64 || len(c.Dirs) != 64 || !ok || !there || p[63] != (Spot{63, 0}) || b.Dirs[63] != (Spot{63, 2}) || c.Dirs[63] != (Spot{63, 3}) {
		t.Error("of 64:", len(p), len(b.Dirs), len(c.Dirs))
	}
	for _, x := range []api.Node{tree.White(), tree.Text("1"), tree.Link("a"), tree.Opaque(tree.Dir(nil))} {
		for _, k := range []int{0, 1, 31, 62, 63} {
			l := slices.Clone(down)
			l[k] = tree.Dir([]string{"b"}, x)
			holds(t, l, names)
			l[k] = tree.Opaque(l[k])
			holds(t, l, names)
		}
	}
}

// TestRemoved: P8.1, P8.2: places are those from above, whatever the branches' numbers are.
func TestRemoved(t *testing.T) {
	down := under(tree.Dir([]string{"x"}, tree.Text("1")), tree.Dir([]string{"y"}, tree.Text("1")), tree.White(), tree.Dir([]string{"z"}, tree.Text("1")))
	s := made(t, down)
	for id := range 4 {
		u, e := s.Remove(id)
		if e != api.OK {
			t.Fatal(e)
		}
		left := slices.Delete(slices.Clone(down), 3-id, 4-id)
		if !slices.Equal(Root(u), plainRoot(left)) {
			t.Error("Root without", id)
		}
		looks(t, left, u, Root(u), []string{"a", "x", "y", "z"})
	}
	looks(t, down, s, Root(s), []string{"a", "x", "y", "z"})
}

// TestHandedIn: P2: Look neither changes a place nor keeps it, nor the room behind it.
func TestHandedIn(t *testing.T) {
	down := under(tree.Dir([]string{"x"}, tree.Dir(nil)), tree.Dir([]string{"x"}, tree.Dir(nil)))
	s := made(t, down)
	p := append(make(Place, 0, 8), Spot{0, 0}, Spot{1, 0})
	room := p[:8]
	for i := 2; i < 8; i++ {
		room[i] = Spot{-i, i}
	}
	f, ok := Look(s, p, "a")
	if !ok || !slices.Equal(f.Dirs, Place{{0, 1}, {1, 1}}) || !slices.Equal(p, Place{{0, 0}, {1, 0}}) {
		t.Fatal("Look:", f, p)
	}
	for i := 2; i < 8; i++ {
		if room[i] != (Spot{-i, i}) {
			t.Error("Look wrote behind what was handed in:", room)
		}
	}
	clear(room)
	if !slices.Equal(f.Dirs, Place{{0, 1}, {1, 1}}) {
		t.Error("Look's answer shares what was handed in:", f)
	}
	if g, _ := Look(s, Root(s), "a"); !like(f, g) {
		t.Error("Look kept what was handed in:", g)
	}
}

// TestAnswered: P2: what is answered is new memory, each time, with the room behind it.
func TestAnswered(t *testing.T) {
	down := under(tree.Dir([]string{"x"}, tree.Dir(nil)), tree.Dir([]string{"x"}, tree.Dir(nil)), tree.Text("1"))
	s := made(t, down)
	for range 2 {
		p := Root(s)
		f, _ := Look(s, p, "a")
		g, _ := Look(s, f.Dirs, "x")
		_ = append(p, Spot{9, 9})
		_ = append(f.Dirs, Spot{8, 8})
		if !slices.Equal(p, plainRoot(down)) || !slices.Equal(f.Dirs, Place{{0, 1}, {1, 1}}) || !slices.Equal(g.Dirs, Place{{0, 2}, {1, 2}}) {
			t.Error("answers:", p, f, g)
		}
		for _, l := range []Place{p, f.Dirs, g.Dirs} {
			for i := range l {
				l[i] = Spot{7, 7}
			}
		}
	}
	holds(t, down, []string{"a", "x"})
}

// TestApart: P2: what is seen of one Stack is not seen of another one, and looking changes none.
func TestApart(t *testing.T) {
	a, b := under(tree.Text("1")), under(tree.White(), tree.Text("1"))
	for range 2 {
		holds(t, a, []string{"a", "b"})
		holds(t, b, []string{"a", "b"})
	}
	x, _ := branch.New(tree.Dir([]string{"a"}, tree.Link("b")))
	s := made(t, a)
	u, _, _ := s.Add(x)
	f, _ := Look(s, Root(s), "a")
	g, _ := Look(u, Root(u), "a")
	if f.Kind != api.File || g.Kind != api.Link || len(Root(s)) != 1 || len(Root(u)) != 2 {
		t.Error("Look:", f, g)
	}
}

// TestTypes: rule 6: two Spots are compared by ==.
func TestTypes(t *testing.T) {
	if (Spot{1, 2}) != (Spot{Level: 1, Inode: 2}) || (Spot{1, 2}) == (Spot{1, 3}) || (Found{Spot: Spot{1, 2}}).Inode != 2 {
		t.Error("Spot")
	}
}

// TestAllArguments: P1: all calls end, and none panics, whatever the places and names; nothing is found where nothing is.
func TestAllArguments(t *testing.T) {
	numbers := []int{math.MinInt, -1 << 32, -1, 0, 1, 2, 3, 4, 63, 64, 4096, 1 << 31, math.MaxInt}
	names := []string{"", "a", "b", "..", "/", "\x00", "\xff", strings.Repeat("a", 5000)}
	l := []stack.Stack{{}, made(t, under(tree.Text("1"))), made(t, under(tree.Dir(nil), tree.Opaque(tree.Dir(nil)), tree.White()))}
	odd, _, _ := stack.Stack{}.Add(nil)
	for _, s := range append(l, odd) {
		Root(s)
		for _, n := range names {
			Look(s, nil, n)
			Look(s, slices.Repeat(Place{{0, 0}, {1, 0}, {2, 0}, {0, 1}}, 1000), n)
			for _, k := range numbers {
				for _, i := range numbers {
					f, ok := Look(s, Place{{k, i}}, n)
					Look(s, Place{{0, 0}, {k, i}, {k, i}, {0, 0}}, n)
					if (k < 0 || k >= s.Len() || i < 0 || i > 1) && (ok || !like(f, Found{})) {
						t.Error("Look in", k, i, f)
					}
				}
			}
		}
	}
}
