package branch

import (
	"math"
	"slices"
	"strconv"
	"strings"
	"testing"

	"socage/api"
	"socage/extent"
	"socage/image"
	"socage/tree"
)

// in: a root that has n as its only entry.
func in(n api.Node) api.Node {
	return api.Node{Kind: api.Dir, Names: []string{"a"}, Items: []api.Node{n}}
}

// under: n, so many directories deep.
func under(deep int, n api.Node) api.Node {
	for range deep {
		n = in(n)
	}
	return n
}

// full: a directory with so many whiteouts.
func full(entries int) api.Node {
	n := api.Node{Kind: api.Dir}
	for i := range entries {
		n.Names = append(n.Names, strconv.Itoa(100000+i))
		n.Items = append(n.Items, api.Node{Kind: api.White})
	}
	return n
}

// sample: a tree with nodes of all kinds; each call makes a new one.
func sample() api.Node {
	return api.Node{Kind: api.Dir, Opaque: true, Names: []string{"a", "ab", "b", "c", "d", "e"}, Items: []api.Node{
		{Kind: api.File, Size: 6, Extents: []api.Extent{{Off: 1, Data: "bc"}, {Off: 4, Data: "d"}}},
		{Kind: api.Dir, Names: []string{"e", "f", "h"}, Items: []api.Node{
			{Kind: api.Dir, Opaque: true, Names: []string{"g"}, Items: []api.Node{{Kind: api.File, Size: 1, Extents: []api.Extent{{Off: 0, Data: "h"}}}}},
			{Kind: api.File, Size: 1 << 20},
			{Kind: api.White},
		}},
		{Kind: api.Link, Target: "../a"},
		{Kind: api.Dir, Opaque: true},
		{Kind: api.Dir, Names: []string{"a", "b"}, Items: []api.Node{{Kind: api.Link, Target: "/"}, {Kind: api.White}}},
		{Kind: api.White},
	}}
}

// trees: trees that may be; each call makes new ones.
func trees() []api.Node {
	return []api.Node{
		sample(),
		{Kind: api.Dir},
		{Kind: api.Dir, Opaque: true},
		{Kind: api.Dir, Names: []string{}, Items: []api.Node{}, Extents: []api.Extent{}},
		in(sample()),
		under(12, sample()),
		under(15, api.Node{Kind: api.White}),
		full(4095),
		under(14, full(4081)),
		{Kind: api.Dir, Names: []string{"a", "b", "c"}, Items: []api.Node{full(1000), under(13, full(10)), full(1000)}},
	}
}

// made: the Branch of a tree that may be.
func made(t *testing.T, root api.Node) *Branch {
	t.Helper()
	b, e := New(root)
	if b == nil || e != api.OK {
		t.Fatal("New:", b, e)
	}
	return b
}

// opened: the Branch of an image.
func opened(t *testing.T, root api.Node) *Branch {
	t.Helper()
	s, e := image.Encode(root)
	b, f := Open(s)
	if b == nil || e != api.OK || f != api.OK {
		t.Fatal("Encode, Open:", e, f)
	}
	return b
}

// plainTable is what the chapter says of how nodes are numbered: n, and all in it, ahead of what comes behind.
func plainTable(n api.Node) []api.Node {
	l := []api.Node{n}
	for _, x := range n.Items {
		l = append(l, plainTable(x)...)
	}
	return l
}

// plainLook is what the chapter says of the number of an entry of the node i.
func plainLook(table []api.Node, i int, s string) (int, bool) {
	at := i + 1
	for k, x := range table[i].Names {
		if x == s {
			return at, true
		}
		at += tree.Count(table[i].Items[k])
	}
	return 0, false
}

// holds: b tells of each node of the tree what the chapter says.
func holds(t *testing.T, b *Branch, root api.Node) {
	t.Helper()
	table := plainTable(root)
	if b.Count() != len(table) || b.Count() != tree.Count(root) {
		t.Fatal("Count:", b.Count(), "not", len(table))
	}
	for i, n := range table {
		if b.Kind(i) != n.Kind || b.Opaque(i) != n.Opaque || b.Size(i) != n.Size || b.Target(i) != n.Target || !slices.Equal(b.Names(i), n.Names) {
			t.Fatalf("node %d: %d, %v, %d, %q, %.80q", i, b.Kind(i), b.Opaque(i), b.Size(i), b.Target(i), b.Names(i))
		}
		if got := b.Read(i, 0, n.Size+1); got != extent.Read(n.Size, n.Extents, 0, n.Size+1) || len(got) != n.Size {
			t.Fatalf("Read of node %d: %.80q", i, got)
		}
		looks(t, b, table, i)
	}
}

// looks: b finds each entry of a node, and no other one.
func looks(t *testing.T, b *Branch, table []api.Node, i int) {
	t.Helper()
	names := append([]string{"", "A", "a", "aa", "g", "z", "\xff", ".", "..", "a/b", "100000", "1000000"}, table[i].Names...)
	if len(names) > 200 {
		names = slices.Concat(names[:50], names[len(names)-50:])
	}
	for _, s := range names {
		at, ok := plainLook(table, i, s)
		if got, found := b.Look(i, s); got != at || found != ok {
			t.Fatalf("Look(%d, %.40q): %d, %v, not %d, %v", i, s, got, found, at, ok)
		}
	}
}

// TestTrees: P6.1, P6.2: all nodes of trees, handed in and out of images.
func TestTrees(t *testing.T) {
	for _, root := range trees() {
		holds(t, made(t, root), root)
		holds(t, opened(t, root), root)
	}
}

// TestNumbers: P6.1, P6.2: which node has which number.
func TestNumbers(t *testing.T) {
	small := api.Node{Kind: api.Dir, Names: []string{"a", "b"}, Items: []api.Node{in(api.Node{Kind: api.White}), {Kind: api.File, Size: 1}}}
	for i, x := range []struct {
		root  api.Node
		at    int
		name  string
		to    int
		found bool
	}{
		{small, 0, "a", 1, true},
		{small, 1, "a", 2, true},
		{small, 0, "b", 3, true},
		{small, 0, "", 0, false},
		{small, 0, "c", 0, false},
		{small, 1, "b", 0, false},
		{small, 2, "a", 0, false},
		{small, 3, "a", 0, false},
		{small, 4, "a", 0, false},
		{small, -1, "a", 0, false},
		{sample(), 0, "a", 1, true},
		{sample(), 0, "ab", 2, true},
		{sample(), 2, "e", 3, true},
		{sample(), 3, "g", 4, true},
		{sample(), 2, "f", 5, true},
		{sample(), 2, "h", 6, true},
		{sample(), 0, "b", 7, true},
		{sample(), 0, "c", 8, true},
		{sample(), 0, "d", 9, true},
		{sample(), 9, "a", 10, true},
		{sample(), 9, "b", 11, true},
		{sample(), 0, "e", 12, true},
		{sample(), 0, "f", 0, false},
		{sample(), 0, "g", 0, false},
		{sample(), 0, "ab/e", 0, false},
		{sample(), 7, "a", 0, false},
		{sample(), 8, "a", 0, false},
		{sample(), 12, "a", 0, false},
		{sample(), 13, "a", 0, false},
	} {
		if to, found := made(t, x.root).Look(x.at, x.name); to != x.to || found != x.found {
			t.Errorf("%d: Look(%d, %q): %d, %v", i, x.at, x.name, to, found)
		}
	}
}

// TestFields: P6.2: a node's fields, and zero where it has none.
func TestFields(t *testing.T) {
	b := made(t, sample())
	if b.Count() != 13 {
		t.Error("Count:", b.Count())
	}
	kinds := []int{2, 1, 2, 2, 1, 1, 4, 3, 2, 2, 3, 4, 4}
	sizes := []int{0, 6, 0, 0, 1, 1 << 20, 0, 0, 0, 0, 0, 0, 0}
	targets := []string{7: "../a", 10: "/", 12: ""}
	opaque := []bool{0: true, 3: true, 8: true, 12: false}
	names := [][]string{0: {"a", "ab", "b", "c", "d", "e"}, 2: {"e", "f", "h"}, 3: {"g"}, 9: {"a", "b"}, 12: nil}
	for i := range 13 {
		if b.Kind(i) != kinds[i] || b.Size(i) != sizes[i] || b.Target(i) != targets[i] || b.Opaque(i) != opaque[i] || !slices.Equal(b.Names(i), names[i]) {
			t.Error("node", i, b.Kind(i), b.Size(i), b.Target(i), b.Opaque(i), b.Names(i))
		}
	}
}

// TestNoNode: P6.2: zero, where there is no such node, at the edges and beyond.
func TestNoNode(t *testing.T) {
	for _, root := range trees() {
		b := made(t, root)
		n := b.Count()
		for _, i := range []int{-1, -2, -n, n, n + 1, 2 * n, 1 << 31, 1 << 32, math.MinInt, math.MaxInt} {
			if b.Kind(i) != 0 || b.Opaque(i) || b.Size(i) != 0 || b.Target(i) != "" || len(b.Names(i)) != 0 || b.Read(i, 0, 9) != "" {
				t.Error("of", n, "nodes", i, b.Kind(i))
			}
			for _, s := range append([]string{"", "a"}, root.Names...) {
				if at, ok := b.Look(i, s); at != 0 || ok {
					t.Errorf("Look(%d, %q) of %d nodes: %d, %v", i, s, n, at, ok)
				}
			}
		}
		if b.Kind(0) != api.Dir || b.Kind(n-1) == 0 {
			t.Error("of", n, "nodes the first and the last:", b.Kind(0), b.Kind(n-1))
		}
	}
}

// TestRead: P6.2: layer 3's Read of a file; of others there is nothing to read.
func TestRead(t *testing.T) {
	b := made(t, sample())
	for _, x := range []struct {
		i, off, n int
		want      string
	}{
		{1, 0, 6, "\x00bc\x00d\x00"},
		{1, 0, 9, "\x00bc\x00d\x00"},
		{1, 0, 2, "\x00b"},
		{1, 1, 2, "bc"},
		{1, 2, 3, "c\x00d"},
		{1, 5, 1, "\x00"},
		{1, 6, 1, ""},
		{1, 7, 1, ""},
		{1, -1, 9, ""},
		{1, 0, 0, ""},
		{1, 0, -1, ""},
		{1, 2, math.MaxInt, "c\x00d\x00"},
		{1, math.MaxInt, math.MaxInt, ""},
		{1, math.MinInt, math.MaxInt, ""},
		{4, 0, 9, "h"},
		{5, 1<<20 - 2, 9, "\x00\x00"},
		{0, 0, 9, ""},
		{2, 0, 9, ""},
		{6, 0, 9, ""},
		{7, 0, 9, ""},
		{8, 0, 9, ""},
		{12, 0, 9, ""},
		{13, 0, 9, ""},
		{-1, 0, 9, ""},
	} {
		if got := b.Read(x.i, x.off, x.n); got != x.want {
			t.Errorf("Read(%d, %d, %d): %q, not %q", x.i, x.off, x.n, got, x.want)
		}
	}
	l := sample().Items[0].Extents
	for off := -2; off < 9; off++ {
		for n := -2; n < 9; n++ {
			if b.Read(1, off, n) != extent.Read(6, l, off, n) {
				t.Error("Read", off, n)
			}
		}
	}
}

// wrongs: trees that may not be.
func wrongs() []api.Node {
	endless := make([]api.Node, 1)
	endless[0] = api.Node{Kind: api.Dir, Names: []string{"a"}, Items: endless}
	return []api.Node{
		{},
		{Kind: api.File},
		{Kind: api.Link, Target: "a"},
		{Kind: api.White},
		{Kind: 5},
		{Kind: api.Dir, Size: 1},
		{Kind: api.Dir, Names: []string{"a"}},
		{Kind: api.Dir, Items: []api.Node{{Kind: api.White}}},
		{Kind: api.Dir, Names: []string{"b", "a"}, Items: []api.Node{{Kind: api.White}, {Kind: api.White}}},
		{Kind: api.Dir, Names: []string{"a", "a"}, Items: []api.Node{{Kind: api.White}, {Kind: api.White}}},
		in(api.Node{}),
		in(api.Node{Kind: api.Link}),
		in(api.Node{Kind: api.White, Opaque: true}),
		in(api.Node{Kind: api.File, Size: 1<<20 + 1}),
		in(api.Node{Kind: api.File, Size: 1, Extents: []api.Extent{{Off: 1, Data: "b"}}}),
		full(4096),
		under(14, full(4082)),
		under(16, api.Node{Kind: api.White}),
		endless[0],
	}
}

// TestWrongs: P6.1: of what may not be there is no Branch.
func TestWrongs(t *testing.T) {
	for i, n := range wrongs() {
		if b, e := New(n); b != nil || e != api.EINVAL {
			t.Error("New", i, b, e)
		}
	}
}

// TestGreat: P6.1: a tree that has no image has a Branch nonetheless.
func TestGreat(t *testing.T) {
	big := strings.Repeat("b", 1<<20)
	root := api.Node{Kind: api.Dir}
	for i := range 5 {
		root.Names = append(root.Names, strconv.Itoa(i))
		root.Items = append(root.Items, api.Node{Kind: api.File, Size: 1 << 20, Extents: []api.Extent{{Off: 0, Data: big}}})
	}
	if _, e := image.Encode(root); e != api.EINVAL {
		t.Error("Encode:", e)
	}
	holds(t, made(t, root), root)
}

// TestOpen: P6.1: Decode's error, and nil; else the Branch of the tree.
func TestOpen(t *testing.T) {
	s, _ := image.Encode(sample())
	for _, x := range []string{"", "x", image.Magic, s[:len(s)-1], s + "\x00", s[1:], s + s, image.Magic + "\x04", image.Magic + "\x02\x02\x00\x00"} {
		if b, e := Open(x); b != nil || e != api.EINVAL {
			t.Errorf("Open(%.40q): %v, %v", x, b, e)
		}
	}
	for i := range len(s) {
		for _, c := range []byte{0, 1, 2, 3, 4, 5, 'a', 255} {
			x := s[:i] + string([]byte{c}) + s[i+1:]
			root, e := image.Decode(x)
			b, f := Open(x)
			if f != e || (b == nil) != (e != api.OK) {
				t.Fatalf("Open(%q): %v, not %v", x, f, e)
			}
			if e == api.OK {
				holds(t, b, root)
			}
		}
	}
}

// scratch: all lists in n are written to, and what is behind them in their memory.
func scratch(n api.Node) {
	_ = append(n.Names, "x")
	_ = append(n.Extents, api.Extent{Off: 9, Data: "x"})
	_ = append(n.Items, api.Node{Kind: 9})
	for i := range n.Names {
		n.Names[i] = "x"
	}
	for i := range n.Extents {
		n.Extents[i] = api.Extent{Off: 9, Data: "x"}
	}
	for i := range n.Items {
		scratch(n.Items[i])
		n.Items[i] = api.Node{Kind: 9}
	}
}

// TestHandedIn: P2: New neither changes a tree nor keeps its lists.
func TestHandedIn(t *testing.T) {
	for i, root := range trees() {
		b := made(t, root)
		holds(t, b, trees()[i])
		if !tree.Same(root, trees()[i]) {
			t.Error("New changed what was handed in:", i)
		}
		scratch(root)
		holds(t, b, trees()[i])
	}
	names, items := []string{"a", "b"}, []api.Node{{Kind: api.File, Size: 1}, {Kind: api.White}}
	b := made(t, api.Node{Kind: api.Dir, Names: names[:1], Items: items[:1]})
	b.Names(0)
	if names[1] != "b" || items[1].Kind != api.White || b.Count() != 2 {
		t.Error("New changed the room behind what was handed in")
	}
}

// TestNamesNew: P2: Names answers new memory, each time, with the room behind it.
func TestNamesNew(t *testing.T) {
	b := made(t, sample())
	for i := range b.Count() {
		first, second := b.Names(i), b.Names(i)
		_ = append(first, "x")
		_ = append(second, "y")
		for k := range first {
			first[k] = "z"
		}
		if !slices.Equal(second, plainTable(sample())[i].Names) {
			t.Error("two answers share memory:", i, second)
		}
	}
	holds(t, b, sample())
}

// TestApart: P2: no Branch tells of what was asked of another one, and asking changes none.
func TestApart(t *testing.T) {
	a, b := made(t, sample()), made(t, in(sample()))
	for range 2 {
		holds(t, a, sample())
		holds(t, b, in(sample()))
	}
	New(api.Node{})
	Open("")
	holds(t, a, sample())
}

// TestAllArguments: P1: all calls end, and none panics, whatever the numbers and texts.
func TestAllArguments(t *testing.T) {
	numbers := []int{math.MinInt, -1 << 32, -9, -1, 0, 1, 2, 7, 12, 13, 4095, 4096, 1 << 20, 1 << 31, 1 << 40, math.MaxInt}
	texts := []string{"", "a", "ab", "\x00", "\xff", "/", strings.Repeat("a", 2000)}
	for _, root := range append(trees(), wrongs()...) {
		New(root)
		New(in(root))
		New(under(1<<16, root))
	}
	for _, s := range texts {
		Open(s)
		Open(image.Magic + s)
	}
	for _, root := range trees() {
		b := made(t, root)
		for _, i := range numbers {
			b.Kind(i)
			b.Opaque(i)
			b.Size(i)
			b.Target(i)
			b.Names(i)
			for _, s := range texts {
				b.Look(i, s)
			}
			for _, off := range numbers {
				b.Read(i, off, 1)
				b.Read(i, off, math.MaxInt)
				b.Read(i, 0, off)
			}
		}
	}
}
