package tree

import (
	"slices"
	"strconv"
	"strings"
	"testing"

	"socage/api"
	"socage/extent"
)

// in: a root that has n as its only entry.
func in(n api.Node) api.Node {
	return api.Node{Kind: api.Dir, Names: []string{"a"}, Items: []api.Node{n}}
}

// under: n, so many directories deep.
func under(deep int, n api.Node) api.Node {
	for range deep {
		n = in(n)
	}
	return n
}

// full: a directory with so many whiteouts.
func full(entries int) api.Node {
	n := api.Node{Kind: api.Dir}
	for i := range entries {
		n.Names = append(n.Names, strconv.Itoa(100000+i))
		n.Items = append(n.Items, api.Node{Kind: api.White})
	}
	return n
}

// sample: a tree with nodes of all kinds; each call makes a new one.
func sample() api.Node {
	return api.Node{Kind: api.Dir, Names: []string{"a", "ab", "b", "c", "d"}, Items: []api.Node{
		{Kind: api.File, Size: 6, Extents: []api.Extent{{Off: 1, Data: "bc"}, {Off: 4, Data: "d"}}},
		{Kind: api.Link, Target: "../a"},
		{Kind: api.White},
		{Kind: api.Dir, Opaque: true},
		{Kind: api.Dir, Names: []string{"e", "f"}, Items: []api.Node{
			{Kind: api.Dir, Names: []string{"g"}, Items: []api.Node{{Kind: api.File, Size: 1, Extents: []api.Extent{{Off: 0, Data: "h"}}}}},
			{Kind: api.File},
		}},
	}}
}

// endless: nodes that have themselves in them.
func endless() []api.Node {
	one := make([]api.Node, 1)
	one[0] = api.Node{Kind: api.Dir, Names: []string{"a"}, Items: one}
	two := make([]api.Node, 2)
	two[0] = api.Node{Kind: api.Dir, Names: []string{"a", "b"}, Items: two}
	two[1] = two[0]
	three := make([]api.Node, 3)
	three[0] = api.Node{Kind: api.White}
	three[1] = api.Node{Kind: api.File}
	three[2] = api.Node{Kind: api.Dir, Names: []string{"a", "b", "c"}, Items: three}
	return []api.Node{one[0], two[0], three[2], in(two[1])}
}

// fields: nodes of a kind with all that fields may have, and some that they may not.
func fields(kind int) []api.Node {
	var all []api.Node
	for i := range 2 * 4 * 4 * 3 * 4 * 4 {
		n := api.Node{Kind: kind, Opaque: i%2 == 1}
		n.Names = [][]string{nil, {}, {"a"}, {"b", "a"}}[i/2%4]
		n.Items = [][]api.Node{nil, {}, {{Kind: api.White}}, {{Kind: api.White}, {Kind: api.File}}}[i/8%4]
		n.Size = []int{0, -1, 2}[i/32%3]
		n.Extents = [][]api.Extent{nil, {}, {{Off: 1, Data: "b"}}, {{Off: 2, Data: "b"}}}[i/96%4]
		n.Target = []string{"", "/b", "\x00", strings.Repeat("/", 257)}[i/384%4]
		all = append(all, n)
	}
	return all
}

// plainMayBe is what the chapter says of when a node of those fields may be, word by word.
func plainMayBe(n api.Node) bool {
	opaque, names, items := n.Opaque, len(n.Names) > 0, len(n.Items) > 0
	size, extents, target := n.Size != 0, len(n.Extents) > 0, n.Target != ""
	switch n.Kind {
	case 1:
		return !opaque && !names && !items && !target && extent.Right(n.Size, n.Extents...)
	case 2:
		named := len(n.Names) == 0 && len(n.Items) == 0 || slices.Equal(n.Names, []string{"a"}) && len(n.Items) == 1
		return !size && !extents && !target && named
	case 3:
		return !opaque && !names && !items && !size && !extents && n.Target == "/b"
	case 4:
		return !opaque && !names && !items && !size && !extents && !target
	}
	return false
}

// TestLimits: the limits' numbers.
func TestLimits(t *testing.T) {
	if MaxDepth != 15 || MaxNodes != 4096 || MaxTarget != 256 {
		t.Error("limits:", MaxDepth, MaxNodes, MaxTarget)
	}
}

// TestRightRoots: P4.1: a root is a directory.
func TestRightRoots(t *testing.T) {
	for i, x := range []struct {
		root api.Node
		want bool
	}{
		{sample(), true},
		{api.Node{Kind: api.Dir}, true},
		{api.Node{Kind: api.Dir, Opaque: true}, true},
		{api.Node{Kind: api.Dir, Names: []string{}, Items: []api.Node{}, Extents: []api.Extent{}}, true},
		{api.Node{Kind: api.File}, false},
		{api.Node{Kind: api.Link, Target: "a"}, false},
		{api.Node{Kind: api.White}, false},
		{api.Node{}, false},
		{api.Node{Kind: api.Dir, Target: "a"}, false},
		{api.Node{Kind: api.Dir, Size: 1}, false},
	} {
		if Right(x.root) != x.want {
			t.Error("Right", i, !x.want)
		}
	}
}

// TestRightFields: P4.1: a node has nothing but what its kind has, wherever it is.
func TestRightFields(t *testing.T) {
	for kind := -1; kind <= 6; kind++ {
		rights := 0
		for _, n := range fields(kind) {
			want := plainMayBe(n)
			if want {
				rights++
			}
			if Right(n) != (want && kind == api.Dir) || Right(in(n)) != want || Right(under(3, n)) != want {
				t.Fatalf("Right of %+v: not %v", n, want)
			}
		}
		if (rights > 0) != (kind >= 1 && kind <= 4) {
			t.Error("right ones of kind", kind, rights)
		}
	}
}

// TestRightFiles: P4.1: a file's Extents are right of its Size.
func TestRightFiles(t *testing.T) {
	for i, x := range []struct {
		size int
		l    []api.Extent
		want bool
	}{
		{0, nil, true},
		{extent.MaxSize, nil, true},
		{extent.MaxSize + 1, nil, false},
		{-1, nil, false},
		{2, []api.Extent{{Off: 0, Data: "b"}, {Off: 1, Data: "c"}}, true},
		{2, []api.Extent{{Off: 1, Data: "b"}, {Off: 0, Data: "c"}}, false},
		{1, []api.Extent{{Off: 0, Data: "bc"}}, false},
		{1, []api.Extent{{Off: 0, Data: ""}}, false},
	} {
		if Right(in(api.Node{Kind: api.File, Size: x.size, Extents: x.l})) != x.want {
			t.Error("Right", i, !x.want)
		}
	}
}

// TestRightTargets: P4.1: a link's Target is a path of at most MaxTarget bytes.
func TestRightTargets(t *testing.T) {
	for s, want := range map[string]bool{
		"a":                       true,
		"/":                       true,
		".":                       true,
		"..":                      true,
		"../../a//b/.":            true,
		"/a/\xff":                 true,
		"":                        false,
		"\x00":                    false,
		"a/\x00b":                 false,
		strings.Repeat("b", 64):   true,
		strings.Repeat("b", 65):   false,
		strings.Repeat("/b", 127): true,
		strings.Repeat("/b", 128): true,
		strings.Repeat("/", 255):  true,
		strings.Repeat("/", 256):  true,
		strings.Repeat("/", 257):  false,
		strings.Repeat("/b", 129): false,
		strings.Repeat("/", 1024): false,
		strings.Repeat("/", 1025): false,
	} {
		if Right(in(api.Node{Kind: api.Link, Target: s})) != want {
			t.Errorf("Right with the target %.40q: %v", s, !want)
		}
	}
}

// TestRightNames: P4.1: names are names, and rise byte by byte; as many as Items.
func TestRightNames(t *testing.T) {
	for i, x := range []struct {
		names []string
		items int
		want  bool
	}{
		{nil, 0, true},
		{[]string{"a"}, 1, true},
		{[]string{"a"}, 0, false},
		{[]string{"a"}, 2, false},
		{nil, 1, false},
		{[]string{"a", "b"}, 1, false},
		{[]string{"a", "b"}, 2, true},
		{[]string{"b", "a"}, 2, false},
		{[]string{"a", "a"}, 2, false},
		{[]string{"a", "b", "b"}, 3, false},
		{[]string{"a", "c", "b"}, 3, false},
		{[]string{"b", "c", "a"}, 3, false},
		{[]string{"a", "b", "a"}, 3, false},
		{[]string{"B", "a"}, 2, true},
		{[]string{"a", "B"}, 2, false},
		{[]string{"10", "9"}, 2, true},
		{[]string{"9", "10"}, 2, false},
		{[]string{"a", "a ", "aa", "ab", "b"}, 5, true},
		{[]string{"aa", "a"}, 2, false},
		{[]string{"z", "\u00e9", "\xff"}, 3, true},
		{[]string{"\xff", "\u00e9"}, 2, false},
		{[]string{""}, 1, false},
		{[]string{"."}, 1, false},
		{[]string{".."}, 1, false},
		{[]string{"..."}, 1, true},
		{[]string{"a/b"}, 1, false},
		{[]string{"a", "b\x00"}, 2, false},
		{[]string{strings.Repeat("b", 64)}, 1, true},
		{[]string{strings.Repeat("b", 65)}, 1, false},
	} {
		n := api.Node{Kind: api.Dir, Names: x.names, Items: full(x.items).Items}
		if Right(n) != x.want || Right(in(n)) != x.want {
			t.Errorf("Right %d, of %.80q: %v", i, x.names, !x.want)
		}
	}
}

// TestRightNodes: P4.1: there are at most MaxNodes nodes, the root counted, wherever they are.
func TestRightNodes(t *testing.T) {
	two := func(a, b int) api.Node {
		return api.Node{Kind: api.Dir, Names: []string{"a", "b"}, Items: []api.Node{full(a), full(b)}}
	}
	for i, x := range []struct {
		root  api.Node
		nodes int
	}{
		{full(4094), 4095},
		{full(4095), 4096},
		{full(4096), 4097},
		{full(9999), 10000},
		{in(full(4094)), 4096},
		{in(full(4095)), 4097},
		{two(2000, 2093), 4096},
		{two(2000, 2094), 4097},
		{two(0, 4093), 4096},
		{two(4094, 0), 4097},
		{under(14, full(4081)), 4096},
		{under(14, full(4082)), 4097},
	} {
		if Count(x.root) != x.nodes || Right(x.root) != (x.nodes <= 4096) {
			t.Error("of", x.nodes, "nodes:", i, Count(x.root), Right(x.root))
		}
	}
}

// TestRightDepth: P4.1: no node is deeper than MaxDepth, of whatever kind.
func TestRightDepth(t *testing.T) {
	for i, n := range []api.Node{{Kind: api.File}, {Kind: api.Dir}, {Kind: api.Link, Target: "a"}, {Kind: api.White}} {
		for deep := 1; deep <= 40; deep++ {
			last := api.Node{Kind: api.Dir, Names: []string{"a", "b"}, Items: []api.Node{{Kind: api.White}, under(deep-1, n)}}
			if Right(under(deep, n)) != (deep <= 15) || Right(last) != (deep <= 15) {
				t.Error("Right", i, deep, "deep")
			}
		}
	}
}

// TestCount: P4.1: a node, and all in it, of whatever kind.
func TestCount(t *testing.T) {
	for i, x := range []struct {
		n    api.Node
		want int
	}{
		{api.Node{}, 1},
		{api.Node{Kind: api.White}, 1},
		{api.Node{Kind: api.Dir}, 1},
		{api.Node{Kind: api.Dir, Names: []string{"a"}}, 1},
		{in(api.Node{}), 2},
		{sample(), 9},
		{sample().Items[4], 4},
		{in(sample()), 10},
		{api.Node{Kind: api.File, Items: []api.Node{sample(), sample()}}, 19},
		{full(50000), 50001},
		{under(1<<16-1, api.Node{}), 1 << 16},
	} {
		if got := Count(x.n); got != x.want {
			t.Error("Count", i, got)
		}
	}
}

// others: trees each of which is unlike the sample, and unlike each other.
func others() []api.Node {
	changed := func(f func(n *api.Node)) api.Node {
		n := sample()
		f(&n)
		return n
	}
	return []api.Node{
		sample(),
		{},
		{Kind: api.Dir},
		{Kind: api.File},
		in(sample()),
		changed(func(n *api.Node) { n.Opaque = true }),
		changed(func(n *api.Node) { n.Kind = api.File }),
		changed(func(n *api.Node) { n.Size = 1 }),
		changed(func(n *api.Node) { n.Target = "a" }),
		changed(func(n *api.Node) { n.Extents = []api.Extent{{Off: 0, Data: "b"}} }),
		changed(func(n *api.Node) { n.Names[4] = "e" }),
		changed(func(n *api.Node) { n.Names = n.Names[:4] }),
		changed(func(n *api.Node) { n.Items = n.Items[:4] }),
		changed(func(n *api.Node) { n.Names, n.Items = n.Names[:4], n.Items[:4] }),
		changed(func(n *api.Node) { n.Items[0], n.Items[1] = n.Items[1], n.Items[0] }),
		changed(func(n *api.Node) { n.Items[0].Size = 7 }),
		changed(func(n *api.Node) { n.Items[0].Extents[1].Off = 3 }),
		changed(func(n *api.Node) { n.Items[0].Extents[1].Data = "e" }),
		changed(func(n *api.Node) { n.Items[0].Extents = n.Items[0].Extents[:1] }),
		changed(func(n *api.Node) { n.Items[1].Target = "a" }),
		changed(func(n *api.Node) { n.Items[2] = api.Node{Kind: api.File} }),
		changed(func(n *api.Node) { n.Items[3].Opaque = false }),
		changed(func(n *api.Node) { n.Items[4].Names[1] = "g" }),
		changed(func(n *api.Node) { n.Items[4].Items[0].Opaque = true }),
		changed(func(n *api.Node) { n.Items[4].Items[0].Items[0].Extents[0].Data = "i" }),
		changed(func(n *api.Node) { n.Items[4].Items[0].Items[0] = api.Node{} }),
	}
}

// TestSame: P4.1: all fields, all in them too.
func TestSame(t *testing.T) {
	a, b := others(), others()
	for i := range a {
		for j := range b {
			if Same(a[i], b[j]) != (i == j) || Same(under(9, a[i]), under(9, b[j])) != (i == j) {
				t.Error("Same", i, j)
			}
		}
	}
	deep := under(1<<16-1, api.Node{})
	if !Same(deep, under(1<<16-1, api.Node{})) || Same(deep, under(1<<16-2, api.Node{})) || Same(deep, under(1<<16-1, api.Node{Size: 1})) {
		t.Error("Same of what is very deep")
	}
}

// TestSameEmpty: P4.1: an empty list is an empty list, nil or not.
func TestSameEmpty(t *testing.T) {
	a := api.Node{Kind: api.Dir}
	b := api.Node{Kind: api.Dir, Names: []string{}, Items: []api.Node{}, Extents: []api.Extent{}}
	if !Same(a, b) || !Same(b, a) || !Same(in(a), in(b)) || !Right(in(b)) {
		t.Error("Same of nil and empty lists")
	}
}

// TestFind: P4.2: each entry, and names that there aren't.
func TestFind(t *testing.T) {
	n := sample()
	for i, s := range n.Names {
		if x, ok := Find(n, s); !ok || !Same(x, sample().Items[i]) {
			t.Errorf("Find(%q): %+v, %v", s, x, ok)
		}
	}
	for _, s := range []string{"", "A", "aa", "abc", "bb", "e", "g", "\xff", "/", "d/e", ".", "..", strings.Repeat("a", 1000)} {
		if x, ok := Find(n, s); ok || !Same(x, api.Node{}) {
			t.Errorf("Find(%q): %+v, %v", s, x, ok)
		}
		if x, ok := Find(api.Node{Kind: api.Dir}, s); ok || !Same(x, api.Node{}) {
			t.Errorf("Find(%q) of none: %+v, %v", s, x, ok)
		}
	}
	many := full(4095)
	for i, s := range many.Names {
		many.Items[i].Size = i
		if x, ok := Find(many, s); !ok || x.Size != i {
			t.Errorf("Find(%q) of many: %+v, %v", s, x, ok)
		}
		if _, ok := Find(many, s+"0"); ok {
			t.Errorf("Find(%q) of many", s+"0")
		}
	}
}

// TestFindWrong: P4.2: the directory may be; what its entry is doesn't matter.
func TestFindWrong(t *testing.T) {
	for i, n := range append(others(), under(1<<16-2, api.Node{Kind: 7, Size: -1})) {
		if x, ok := Find(in(n), "a"); !ok || !Same(x, n) {
			t.Error("Find", i, ok)
		}
	}
}

// scratch: all lists in n are written to, and what is behind them in their memory.
func scratch(n api.Node) {
	_ = append(n.Names, "x")
	_ = append(n.Extents, api.Extent{Off: 9, Data: "x"})
	_ = append(n.Items, api.Node{Kind: 9})
	for i := range n.Names {
		n.Names[i] = "x"
	}
	for i := range n.Extents {
		n.Extents[i] = api.Extent{Off: 9, Data: "x"}
	}
	for i := range n.Items {
		scratch(n.Items[i])
		n.Items[i] = api.Node{Kind: 9}
	}
}

// TestFindNew: P2: what Find answers shares no list with the directory, nor with what it answers again.
func TestFindNew(t *testing.T) {
	n := in(sample())
	n.Items[0].Extents = []api.Extent{{Off: 0, Data: "b"}}
	want := in(sample())
	want.Items[0].Extents = []api.Extent{{Off: 0, Data: "b"}}
	first, _ := Find(n, "a")
	second, _ := Find(n, "a")
	scratch(first)
	if !Same(n, want) || !Same(second, want.Items[0]) {
		t.Error("Find shares lists")
	}
	scratch(n)
	if !Same(second, want.Items[0]) {
		t.Error("Find kept lists")
	}
}

// TestMake: P4.3: a node of each kind, with nothing but what was handed in.
func TestMake(t *testing.T) {
	a, b := sample(), api.Node{Kind: api.Link, Target: "a"}
	for i, x := range []struct{ got, want api.Node }{
		{Dir(nil), api.Node{Kind: 2}},
		{Dir([]string{}), api.Node{Kind: 2}},
		{Dir([]string{"a", "b"}, a, b), api.Node{Kind: 2, Names: []string{"a", "b"}, Items: []api.Node{a, b}}},
		{Dir([]string{"b", "a"}, a, b), api.Node{Kind: 2, Names: []string{"b", "a"}, Items: []api.Node{a, b}}},
		{Dir([]string{"", "a"}, b), api.Node{Kind: 2, Names: []string{"", "a"}, Items: []api.Node{b}}},
		{Dir(nil, b, a), api.Node{Kind: 2, Items: []api.Node{b, a}}},
		{Text(""), api.Node{Kind: 1}},
		{Text("bc"), api.Node{Kind: 1, Size: 2, Extents: []api.Extent{{Off: 0, Data: "bc"}}}},
		{Text("\x00"), api.Node{Kind: 1, Size: 1}},
		{Text("\x00bc\x00d\x00"), api.Node{Kind: 1, Size: 6, Extents: []api.Extent{{Off: 1, Data: "bc"}, {Off: 4, Data: "d"}}}},
		{Link("a"), api.Node{Kind: 3, Target: "a"}},
		{Link(""), api.Node{Kind: 3}},
		{Link("\x00"), api.Node{Kind: 3, Target: "\x00"}},
		{White(), api.Node{Kind: 4}},
	} {
		if !Same(x.got, x.want) {
			t.Errorf("%d: %+v", i, x.got)
		}
	}
}

// TestMakeRight: P4.3: nodes that are made may be, as far as what they are made of may.
func TestMakeRight(t *testing.T) {
	big := strings.Repeat("b", extent.MaxSize)
	for i, x := range []struct {
		n    api.Node
		want bool
	}{
		{Text(""), true},
		{Text("b\x00c"), true},
		{Text(big), true},
		{Text(big + "b"), false},
		{Text(big + "\x00"), false},
		{Link("/a/.."), true},
		{Link(""), false},
		{White(), true},
		{Dir(nil), true},
		{Dir([]string{"a", "b"}, Text("b"), White()), true},
		{Dir([]string{"b", "a"}, Text("b"), White()), false},
		{Opaque(Dir(nil)), true},
		{Opaque(Dir([]string{"a"}, Opaque(Dir(nil)))), true},
		{Opaque(Text("b")), false},
		{Opaque(Link("a")), false},
		{Opaque(White()), false},
	} {
		if Right(in(x.n)) != x.want {
			t.Error("Right", i, !x.want)
		}
	}
}

// TestOpaque: P4.3: n, that is Opaque; what was handed in isn't changed.
func TestOpaque(t *testing.T) {
	for i, n := range others() {
		want := others()[i]
		got := Opaque(n)
		if !Same(n, want) {
			t.Error("Opaque changed", i)
		}
		want.Opaque = true
		if !got.Opaque || !Same(got, want) || !Same(Opaque(got), want) {
			t.Error("Opaque", i)
		}
	}
}

// TestDirNew: P4.3, P2: Dir's lists are new, their spare room too.
func TestDirNew(t *testing.T) {
	names := []string{"a", "b", "c"}
	items := []api.Node{{Kind: api.White}, {Kind: api.File}, {Kind: api.Dir}}
	want := func() api.Node {
		return api.Node{Kind: api.Dir, Names: []string{"a", "b"}, Items: []api.Node{{Kind: api.White}, {Kind: api.File}}}
	}
	first, second := Dir(names[:2], items[:2]...), Dir(names[:2], items[:2]...)
	scratch(first)
	if !slices.Equal(names, []string{"a", "b", "c"}) || items[0].Kind != api.White || items[1].Kind != api.File || items[2].Kind != api.Dir {
		t.Error("Dir shares its lists:", names, items)
	}
	names[0], items[0] = "x", api.Node{}
	if !Same(second, want()) {
		t.Error("Dir kept its lists:", second)
	}
}

// TestTextNew: P2: what Text answers is new, each time.
func TestTextNew(t *testing.T) {
	first, second := Text("b\x00c"), Text("b\x00c")
	scratch(first)
	if !Same(second, Text("b\x00c")) || len(second.Extents) != 2 {
		t.Error("Text:", second)
	}
}

// TestHandedIn: P2: what is asked of a node changes nothing in it.
func TestHandedIn(t *testing.T) {
	for i, n := range others() {
		Right(n)
		Count(n)
		Same(n, sample())
		Same(sample(), n)
		Find(n, "a")
		if !Same(n, others()[i]) {
			t.Error("changed", i)
		}
	}
}

// TestAllArguments: P1: all calls end, and none panics, whatever the nodes and texts.
func TestAllArguments(t *testing.T) {
	nodes := append(endless(), others()...)
	nodes = append(nodes, api.Node{Kind: -1, Names: []string{"c", "a", "b"}}, under(20, sample()), under(1<<17, api.Node{}))
	for kind := 0; kind <= 5; kind++ {
		nodes = append(nodes, fields(kind)[:96]...)
	}
	texts := []string{"", "a", "b", "c", "\x00", "\xff", strings.Repeat("a", 2000)}
	for i, n := range nodes {
		Right(n)
		Right(in(n))
		Count(n)
		Same(n, nodes[len(nodes)-1-i])
		Same(n, n)
		for _, s := range texts {
			Find(n, s)
		}
		Dir(texts, n, Opaque(n))
	}
	for _, s := range texts {
		Text(s)
		Link(s)
	}
}

// TestEndless: P1, P4.1: what has itself in it is no tree that may be.
func TestEndless(t *testing.T) {
	for i, n := range endless() {
		if Right(n) || Right(in(n)) {
			t.Error("Right of what has no end:", i)
		}
	}
}
