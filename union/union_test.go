package union

import (
	"math"
	"reflect"
	"slices"
	"strings"
	"testing"

	"socage/api"
	"socage/extent"
	"socage/merge"
	"socage/seen"
	"socage/stack"
	"socage/tree"
	"socage/walk"
)

// made: the Stack of trees, the uppermost one last.
func made(t *testing.T, trees ...api.Node) stack.Stack {
	t.Helper()
	s, e := stack.Of(trees...)
	if e != api.OK {
		t.Fatal(e)
	}
	return s
}

// is: two Results are the same; a list without items may be nil or not.
func is(a, b api.Result) bool {
	names := slices.Equal(a.Names, b.Names)
	a.Names, b.Names = nil, nil
	return names && reflect.DeepEqual(a, b)
}

// node: the node of that number: 0 is the root, and what is in a node is behind it.
func node(n api.Node, i int) api.Node {
	if i == 0 {
		return n
	}
	at := 1
	for _, x := range n.Items {
		c := tree.Count(x)
		if i < at+c {
			return node(x, i-at)
		}
		at += c
	}
	return api.Node{}
}

// plainDo is what the chapter says of Do, of trees of which the uppermost one is the last.
func plainDo(trees []api.Node, s stack.Stack, op api.Op) api.Result {
	follow := op.Kind == api.Stat || op.Kind == api.ReadAt
	if op.Kind < api.Lookup || op.Kind > api.ReadAt || op.Kind == api.ReadAt && (op.Off < 0 || op.N < 0) {
		return api.Result{Err: api.EINVAL}
	}
	t, e := walk.Walk(s, op.Path, follow)
	if e != api.OK {
		return api.Result{Err: e}
	}
	n, where := api.Node{Kind: api.Dir}, -1
	if len(trees) > 0 {
		where = len(trees) - 1 - t.Level
		n = node(trees[where], t.Inode)
	}
	switch {
	case op.Kind == api.Lookup:
		return api.Result{Kind: n.Kind, Where: where}
	case op.Kind == api.Stat:
		return api.Result{Kind: n.Kind, Size: n.Size}
	case op.Kind == api.Readlink && n.Kind == api.Link:
		return api.Result{Text: n.Target}
	case op.Kind == api.ReadAt && n.Kind == api.Dir:
		return api.Result{Err: api.EISDIR}
	case op.Kind == api.ReadAt:
		return api.Result{Text: extent.Read(n.Size, n.Extents, op.Off, op.N)}
	}
	return api.Result{Err: api.EINVAL}
}

// plainList is what the chapter says of List; names are all that there may be, rising.
func plainList(s stack.Stack, path string, names []string) (string, []merge.Entry, api.Errno) {
	t, e := walk.Walk(s, path, true)
	if e == api.OK && t.Kind != api.Dir {
		e = api.ENOTDIR
	}
	if e != api.OK {
		return "", nil, e
	}
	var l []merge.Entry
	for _, n := range names {
		if f, ok := seen.Look(s, t.Dirs, n); ok {
			l = append(l, merge.Entry{Name: n, Kind: f.Kind})
		}
	}
	return t.Path, l, api.OK
}

// holds: Do of all Kinds, and List, of all these paths, are what the chapter says.
func holds(t *testing.T, trees []api.Node, paths, names []string) {
	t.Helper()
	s := made(t, trees...)
	for _, p := range paths {
		for kind := -1; kind < 12; kind++ {
			for off := -1; off < 4; off++ {
				for n := -1; n < 4; n++ {
					op := api.Op{Kind: kind, Path: p, Off: off, N: n}
					if r, want := Do(s, op), plainDo(trees, s, op); !is(r, want) {
						t.Fatalf("Do of %+v: %+v, not %+v", op, r, want)
					}
				}
			}
		}
		path, l, e := List(s, p)
		want, m, err := plainList(s, p, names)
		if path != want || !slices.Equal(l, m) || e != err {
			t.Fatalf("List of %q: %q, %v, %v, not %q, %v, %v", p, path, l, e, want, m, err)
		}
	}
}

// TestAllOf: P12.2, P12.3: all Kinds, of all short paths, in all that three branches, or fewer, may have by a name.
func TestAllOf(t *testing.T) {
	names := []string{"a", "b", "c"}
	paths := []string{"", "\x00", "/", "a", "b", "a/", "a/..", "a/b", "a/c", "b/a", "b/b/..", "../a", "c", "a/c/b", "b/c"}
	var l []api.Node
	for _, x := range []api.Node{
		tree.Text("12"),
		{Kind: api.File, Size: 3, Extents: []api.Extent{{Off: 1, Data: "x"}}},
		tree.White(),
		tree.Link("b"),
		tree.Link("/b/.."),
		tree.Dir([]string{"b", "c"}, tree.Text("\x00z"), tree.Link("../a")),
		tree.Opaque(tree.Dir([]string{"b"}, tree.White())),
	} {
		l = append(l, tree.Dir([]string{"a", "b"}, x, tree.Dir([]string{"c"}, x)), tree.Dir([]string{"b"}, x))
	}
	holds(t, nil, paths, names)
	for _, a := range l {
		holds(t, []api.Node{a}, paths, names)
		for _, b := range l {
			holds(t, []api.Node{a, b}, paths, names)
		}
		holds(t, []api.Node{a, tree.Opaque(tree.Dir(nil)), l[0]}, paths, names)
		holds(t, []api.Node{a, l[2], tree.Dir([]string{"a"}, tree.White())}, paths, names)
	}
}

// TestKinds: P12.1: of each Kind, and of what is none.
func TestKinds(t *testing.T) {
	for _, kind := range []int{math.MinInt, -1, 0, 1, 2, 3, 4, 5, 6, 7, 8, 9, 10, 1 << 32, 1<<32 + 1, math.MaxInt} {
		if Is(kind) != (kind >= 1 && kind <= 4) {
			t.Error("Is", kind)
		}
		if Follows(kind) != (kind == api.Stat || kind == api.ReadAt || kind == api.Open) {
			t.Error("Follows", kind)
		}
	}
}

// TestCheck: P12.1: only Off and N of a ReadAt, and N of a Page, are held against anything.
func TestCheck(t *testing.T) {
	numbers := []int{math.MinInt, -2, -1, 0, 1, 2, math.MaxInt}
	for kind := -1; kind < 12; kind++ {
		for _, off := range numbers {
			for _, n := range numbers {
				want := api.OK
				if kind == api.ReadAt && (off < 0 || n < 0) || kind == api.Page && n < 1 {
					want = api.EINVAL
				}
				for _, p := range []string{"", "a"} {
					if e := Check(api.Op{Kind: kind, Path: p, Off: off, N: n, ID: -1}); e != want {
						t.Error("Check of", kind, off, n, e)
					}
				}
			}
		}
	}
}

// some: two branches with a file, a link, and directories that are one.
func some(t *testing.T) stack.Stack {
	return made(t,
		tree.Dir([]string{"d", "f", "l", "m"}, tree.Dir([]string{"g"}, tree.Text("hello")), tree.Text("low"), tree.Link("d/g"), tree.Link("d")),
		tree.Dir([]string{"d", "f", "x"}, tree.Dir([]string{"h"}, tree.Link("nowhere")), tree.White(), tree.Text("\x00\x00x")))
}

// TestExamples: P12.2, P12.3: the chapter's examples, and others, written out.
func TestExamples(t *testing.T) {
	s := some(t)
	for _, x := range []struct {
		op   api.Op
		want api.Result
	}{
		{api.Op{Kind: api.Lookup, Path: "/"}, api.Result{Kind: api.Dir, Where: 1}},
		{api.Op{Kind: api.Lookup, Path: "d"}, api.Result{Kind: api.Dir, Where: 1}},
		{api.Op{Kind: api.Lookup, Path: "d/g"}, api.Result{Kind: api.File}},
		{api.Op{Kind: api.Lookup, Path: "x"}, api.Result{Kind: api.File, Where: 1}},
		{api.Op{Kind: api.Lookup, Path: "l"}, api.Result{Kind: api.Link}},
		{api.Op{Kind: api.Lookup, Path: "m/h"}, api.Result{Kind: api.Link, Where: 1}},
		{api.Op{Kind: api.Lookup, Path: "f"}, api.Result{Err: api.ENOENT}},
		{api.Op{Kind: api.Stat, Path: "l", Off: -1, N: -1, ID: -1}, api.Result{Kind: api.File, Size: 5}},
		{api.Op{Kind: api.Stat, Path: "x"}, api.Result{Kind: api.File, Size: 3}},
		{api.Op{Kind: api.Stat, Path: "m"}, api.Result{Kind: api.Dir}},
		{api.Op{Kind: api.Stat, Path: "d/h"}, api.Result{Err: api.ENOENT}},
		{api.Op{Kind: api.Readlink, Path: "l"}, api.Result{Text: "d/g"}},
		{api.Op{Kind: api.Readlink, Path: "m/h"}, api.Result{Text: "nowhere"}},
		{api.Op{Kind: api.Readlink, Path: "x"}, api.Result{Err: api.EINVAL}},
		{api.Op{Kind: api.Readlink, Path: "m/"}, api.Result{Text: "d"}},
		{api.Op{Kind: api.Readlink, Path: "m/."}, api.Result{Text: "d"}},
		{api.Op{Kind: api.Readlink, Path: "/"}, api.Result{Err: api.EINVAL}},
		{api.Op{Kind: api.Readlink, Path: "f"}, api.Result{Err: api.ENOENT}},
		{api.Op{Kind: api.ReadAt, Path: "l", Off: 1, N: 3}, api.Result{Text: "ell"}},
		{api.Op{Kind: api.ReadAt, Path: "l", Off: 4, N: math.MaxInt}, api.Result{Text: "o"}},
		{api.Op{Kind: api.ReadAt, Path: "l", Off: 5, N: 1}, api.Result{}},
		{api.Op{Kind: api.ReadAt, Path: "l", Off: math.MaxInt, N: math.MaxInt}, api.Result{}},
		{api.Op{Kind: api.ReadAt, Path: "x", N: 9}, api.Result{Text: "\x00\x00x"}},
		{api.Op{Kind: api.ReadAt, Path: "x"}, api.Result{}},
		{api.Op{Kind: api.ReadAt, Path: "m"}, api.Result{Err: api.EISDIR}},
		{api.Op{Kind: api.ReadAt, Path: "m", N: -1}, api.Result{Err: api.EINVAL}},
		{api.Op{Kind: api.ReadAt, Path: "f", Off: -1}, api.Result{Err: api.EINVAL}},
		{api.Op{Kind: api.ReadAt, Path: "x/y"}, api.Result{Err: api.ENOTDIR}},
		{api.Op{Kind: api.Open, Path: "d"}, api.Result{Err: api.EINVAL}},
		{api.Op{Kind: api.Page, Path: "f", N: 1}, api.Result{Err: api.EINVAL}},
		{api.Op{Path: "/"}, api.Result{Err: api.EINVAL}},
		{api.Op{Kind: api.Lookup}, api.Result{Err: api.EINVAL}},
	} {
		if r := Do(s, x.op); !is(r, x.want) {
			t.Errorf("Do of %+v: %+v, not %+v", x.op, r, x.want)
		}
	}
}

// TestList: P12.3: the directory's own path, and what is seen there; or the first error.
func TestList(t *testing.T) {
	s := some(t)
	for _, x := range []struct {
		s     stack.Stack
		path  string
		want  string
		names []string
		kinds []int
		e     api.Errno
	}{
		{s, "..", "/", []string{"d", "l", "m", "x"}, []int{api.Dir, api.Link, api.Link, api.File}, api.OK},
		{s, "d/", "/d", []string{"g", "h"}, []int{api.File, api.Link}, api.OK},
		{s, "m", "/d", []string{"g", "h"}, []int{api.File, api.Link}, api.OK},
		{s, "m/../m/.", "/d", []string{"g", "h"}, []int{api.File, api.Link}, api.OK},
		{s, "x", "", nil, nil, api.ENOTDIR}, {s, "l", "", nil, nil, api.ENOTDIR}, {s, "x/..", "", nil, nil, api.ENOTDIR},
		{s, "f", "", nil, nil, api.ENOENT}, {s, "d/h", "", nil, nil, api.ENOENT}, {s, "", "", nil, nil, api.EINVAL}, {s, "x/\x00", "", nil, nil, api.EINVAL},
		{stack.Stack{}, "../.", "/", nil, nil, api.OK}, {stack.Stack{}, "a", "", nil, nil, api.ENOENT},
		{made(t, tree.Dir([]string{"l"}, tree.Link("l"))), "l", "", nil, nil, api.ELOOP},
	} {
		p, l, e := List(x.s, x.path)
		var kinds []int
		for _, y := range l {
			kinds = append(kinds, y.Kind)
		}
		if p != x.want || !slices.Equal(merge.Names(l), x.names) || !slices.Equal(kinds, x.kinds) || e != x.e {
			t.Error("List of", x.path, p, l, e)
		}
	}
}

// TestWhere: P12.2: the branches' own numbers, whatever has been removed; -1 on no branches.
func TestWhere(t *testing.T) {
	s := made(t, slices.Repeat([]api.Node{tree.Dir([]string{"a", "l"}, tree.Dir([]string{"f"}, tree.Text("1")), tree.Link("a"))}, 64)...)
	for id := 63; id >= 0; id-- {
		for _, p := range []string{"/", "a", "a/f", "l", "l/f"} {
			if r := Do(s, api.Op{Kind: api.Lookup, Path: p}); r.Err != api.OK || r.Where != id {
				t.Error("Lookup of", p, r, "not", id)
			}
		}
		s, _ = s.Remove(id)
	}
	if r := Do(s, api.Op{Kind: api.Lookup, Path: ".."}); !is(r, api.Result{Kind: api.Dir, Where: -1}) {
		t.Error("Lookup on no branches:", r)
	}
	if r := Do(s, api.Op{Kind: api.Stat, Path: ".."}); !is(r, api.Result{Kind: api.Dir}) {
		t.Error("Stat on no branches:", r)
	}
	if r := Do(s, api.Op{Kind: api.ReadAt, Path: ".."}); !is(r, api.Result{Err: api.EISDIR}) {
		t.Error("ReadAt on no branches:", r)
	}
	if r := Do(s, api.Op{Kind: api.Readlink, Path: "a"}); !is(r, api.Result{Err: api.ENOENT}) {
		t.Error("Readlink on no branches:", r)
	}
}

// TestFinish: P12.2: of Targets that were come to whether or not the last link was followed.
func TestFinish(t *testing.T) {
	s := some(t)
	for _, x := range []struct {
		path   string
		follow bool
		op     api.Op
		want   api.Result
	}{
		{"l", false, api.Op{Kind: api.Lookup}, api.Result{Kind: api.Link}},
		{"l", true, api.Op{Kind: api.Lookup}, api.Result{Kind: api.File}},
		{"l", false, api.Op{Kind: api.Stat}, api.Result{Kind: api.Link}},
		{"l", false, api.Op{Kind: api.ReadAt, N: 9}, api.Result{}},
		{"l", true, api.Op{Kind: api.Readlink}, api.Result{Err: api.EINVAL}},
		{"l", false, api.Op{Kind: api.Readlink, Path: "x"}, api.Result{Text: "d/g"}},
		{"m", true, api.Op{Kind: api.Stat}, api.Result{Kind: api.Dir}},
		{"m", true, api.Op{Kind: api.Readlink}, api.Result{Err: api.EINVAL}},
		{"m", true, api.Op{Kind: api.ReadAt}, api.Result{Err: api.EISDIR}},
		{"m", false, api.Op{Kind: api.ReadAt, N: 1}, api.Result{}},
		{"l", true, api.Op{Kind: api.ReadAt, Off: 3, N: 2}, api.Result{Text: "lo"}},
		{"x", true, api.Op{Kind: api.Open}, api.Result{Err: api.EINVAL}},
		{"d", true, api.Op{Kind: api.Open}, api.Result{Err: api.EINVAL}},
		{"d", true, api.Op{Kind: api.Page, N: 1}, api.Result{Err: api.EINVAL}},
		{"d", true, api.Op{Kind: api.Close}, api.Result{Err: api.EINVAL}},
		{"d", true, api.Op{Kind: api.Add}, api.Result{Err: api.EINVAL}},
		{"d", true, api.Op{Kind: api.Remove}, api.Result{Err: api.EINVAL}},
		{"d", true, api.Op{}, api.Result{Err: api.EINVAL}},
	} {
		y, e := walk.Walk(s, x.path, x.follow)
		if r := Finish(s, x.op, y); e != api.OK || !is(r, x.want) {
			t.Errorf("Finish of %q, %v, %+v: %+v, not %+v", x.path, x.follow, x.op, r, x.want)
		}
	}
}

// TestLimits: P12.2, P12.3: the greatest file, the longest target, forty links, and one more.
func TestLimits(t *testing.T) {
	big := api.Node{Kind: api.File, Size: 1 << 20, Extents: []api.Extent{{Off: 1<<20 - 1, Data: "z"}}}
	far := strings.Repeat("./", 127) + ".."
	s := made(t, tree.Dir([]string{"big", "far", "l"}, big, tree.Link(far), tree.Link("/")))
	for _, x := range []struct {
		op   api.Op
		want api.Result
	}{
		{api.Op{Kind: api.Stat, Path: "big"}, api.Result{Kind: api.File, Size: 1 << 20}},
		{api.Op{Kind: api.ReadAt, Path: "big", N: math.MaxInt}, api.Result{Text: strings.Repeat("\x00", 1<<20-1) + "z"}},
		{api.Op{Kind: api.ReadAt, Path: "big", Off: 1<<20 - 2, N: 3}, api.Result{Text: "\x00z"}},
		{api.Op{Kind: api.ReadAt, Path: "big", Off: 1 << 20, N: 1}, api.Result{}},
		{api.Op{Kind: api.Readlink, Path: "far"}, api.Result{Text: far}},
		{api.Op{Kind: api.Stat, Path: strings.Repeat("l/", 40)}, api.Result{Kind: api.Dir}},
		{api.Op{Kind: api.Stat, Path: strings.Repeat("l/", 41)}, api.Result{Err: api.ELOOP}},
		{api.Op{Kind: api.Lookup, Path: strings.Repeat("l/", 41)}, api.Result{Kind: api.Link}},
		{api.Op{Kind: api.Lookup, Path: strings.Repeat("l/", 42)}, api.Result{Err: api.ELOOP}},
		{api.Op{Kind: api.Lookup, Path: strings.Repeat("/", 1024)}, api.Result{Kind: api.Dir}},
		{api.Op{Kind: api.Lookup, Path: strings.Repeat("/", 1025)}, api.Result{Err: api.EINVAL}},
	} {
		if r := Do(s, x.op); !is(r, x.want) {
			t.Errorf("Do of %d %.20q, %d, %d: %d, %d, %d bytes", x.op.Kind, x.op.Path, x.op.Off, x.op.N, r.Err, r.Kind, len(r.Text))
		}
	}
	if p, l, e := List(s, strings.Repeat("l/", 40)); p != "/" || len(l) != 3 || e != api.OK {
		t.Error("List along forty links:", p, l, e)
	}
	if _, l, e := List(s, strings.Repeat("l/", 41)); len(l) != 0 || e != api.ELOOP {
		t.Error("List along one more:", l, e)
	}
}

// TestApart: P2: what is handed in isn't changed, what is answered is new each time, and nothing is kept.
func TestApart(t *testing.T) {
	s, other := some(t), made(t, tree.Dir([]string{"d"}, tree.Text("1")))
	y, _ := walk.Walk(s, "d", true)
	y.Dirs = append(make(seen.Place, 0, 4), y.Dirs...)
	dirs := slices.Clone(y.Dirs[:4])
	for range 3 {
		_, l, _ := List(s, "d")
		_, m, _ := List(s, "d")
		if !slices.Equal(merge.Names(l), []string{"g", "h"}) || !slices.Equal(l, m) {
			t.Fatal("List:", l, m)
		}
		clear(l[:cap(l)])
		if !slices.Equal(merge.Names(m), []string{"g", "h"}) {
			t.Error("Lists share memory:", m)
		}
		if _, _, e := List(other, "d"); e != api.ENOTDIR {
			t.Error("List of another one:", e)
		}
		for kind := range 12 {
			Finish(s, api.Op{Kind: kind, N: 9}, y)
			Do(s, api.Op{Kind: kind, Path: "d/g", N: 9})
		}
		if r := Do(other, api.Op{Kind: api.ReadAt, Path: "d", N: 9}); r.Text != "1" {
			t.Error("Do of another one:", r)
		}
	}
	if !slices.Equal(y.Dirs[:4], dirs) || s.Len() != 2 {
		t.Error("changed what was handed in:", y.Dirs[:4])
	}
}

// TestAllArguments: P1: all calls end, and none panics, whatever is asked for, and of whatever Target.
func TestAllArguments(t *testing.T) {
	numbers := []int{math.MinInt, -1 << 32, -1, 0, 1, 2, 3, 4, 5, 9, 64, 1 << 31, math.MaxInt}
	texts := []string{"", "/", "..", "a", "l", "\x00", "\xff/..", strings.Repeat("l/", 512), strings.Repeat("a", 5000)}
	odd, _, _ := stack.Stack{}.Add(nil)
	for _, s := range []stack.Stack{{}, odd, made(t, tree.Dir([]string{"a", "l"}, tree.Text("1"), tree.Link("l/l")))} {
		for _, p := range texts {
			List(s, p)
			for _, k := range numbers {
				for _, n := range numbers {
					op := api.Op{Kind: k, Path: p, Off: n, N: -n, ID: n, Image: p}
					Check(op)
					Do(s, op)
					for kind := range 6 {
						at := seen.Spot{Level: n, Inode: -n}
						Finish(s, op, walk.Target{Path: p, Found: seen.Found{Kind: kind, Spot: at, Dirs: seen.Place{at}}})
						at = seen.Spot{Level: -n, Inode: n}
						Finish(s, op, walk.Target{Path: p, Found: seen.Found{Kind: kind, Spot: at}})
					}
				}
			}
		}
	}
}
