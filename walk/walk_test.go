package walk

import (
	"math"
	"slices"
	"strconv"
	"strings"
	"testing"

	"socage/api"
	"socage/seen"
	"socage/stack"
	"socage/tree"
)

// made: the Stack of trees, the uppermost one last.
func made(t *testing.T, trees ...api.Node) stack.Stack {
	t.Helper()
	s, e := stack.Of(trees...)
	if e != api.OK {
		t.Fatal(e)
	}
	return s
}

// like: two Targets are the same.
func like(a, b Target) bool {
	return a.Path == b.Path && alike(a.Found, b.Found)
}

// alike: two that were found are the same.
func alike(a, b seen.Found) bool {
	return a.Kind == b.Kind && a.Spot == b.Spot && slices.Equal(a.Dirs, b.Dirs)
}

// step is what is looked for on a way: a name in the directory of these names, and how many parts are left then.
type step struct {
	dir  []string
	name string
	left int
}

// plain is what the chapter says of going along a path: the names of where it leads, or why it leads nowhere; and each step.
type plain struct {
	s      stack.Stack
	follow bool
	hops   int
	steps  []step
}

// found: what is seen by names, one below the other.
func (x *plain) found(names []string) (seen.Found, bool) {
	f, ok := seen.Found{Kind: api.Dir, Dirs: seen.Root(x.s)}, true
	if len(f.Dirs) > 0 {
		f.Spot = f.Dirs[0]
	}
	for _, n := range names {
		if f, ok = seen.Look(x.s, f.Dirs, n); !ok {
			return f, false
		}
	}
	return f, true
}

// along: from a directory, told by its names, along parts.
func (x *plain) along(dir, parts []string) ([]string, api.Errno) {
	if len(parts) == 0 {
		return dir, api.OK
	}
	next, behind := parts[0], parts[1:]
	if next == ".." {
		if len(dir) > 0 {
			dir = dir[:len(dir)-1]
		}
		return x.along(slices.Clone(dir), behind)
	}
	x.steps = append(x.steps, step{slices.Clone(dir), next, len(parts)})
	there := append(slices.Clone(dir), next)
	f, ok := x.found(there)
	switch {
	case !ok:
		return nil, api.ENOENT
	case f.Kind == api.Dir:
		return x.along(there, behind)
	case f.Kind == api.Link && (len(behind) > 0 || x.follow):
		if x.hops++; x.hops > 40 {
			return nil, api.ELOOP
		}
		target := x.s.At(f.Level).Target(f.Inode)
		if strings.HasPrefix(target, "/") {
			dir = nil
		}
		return x.along(dir, append(plainParts(target), behind...))
	case len(behind) > 0:
		return nil, api.ENOTDIR
	}
	return there, api.OK
}

// plainParts: the parts of what is a path.
func plainParts(path string) []string {
	var parts []string
	for _, p := range strings.Split(path, "/") {
		if p != "" && p != "." {
			parts = append(parts, p)
		}
	}
	return parts
}

// walks: Walk, and a Walker's steps, are what the chapter says.
func walks(t *testing.T, s stack.Stack, path string, follow bool) {
	t.Helper()
	x := &plain{s: s, follow: follow}
	names, err := x.along(nil, plainParts(path))
	var want Target
	if err == api.OK {
		f, _ := x.found(names)
		want = Target{Path: "/" + strings.Join(names, "/"), Found: f}
	}
	if got, e := Walk(s, path, follow); !like(got, want) || e != err {
		t.Fatalf("Walk of %q, %v: %v, %v, not %v, %v", path, follow, got, e, want, err)
	}
	steps(t, x, path, want, err)
}

// steps: a Walker asks for just these names, is where they are, and comes to that Target, or to that error.
func steps(t *testing.T, x *plain, path string, want Target, err api.Errno) {
	t.Helper()
	w, e := New(seen.Root(x.s), path, x.follow)
	for i, y := range x.steps {
		dir, p, n, ok := w.Ask()
		f, _ := x.found(y.dir)
		if e != api.OK || dir != "/"+strings.Join(y.dir, "/") || !slices.Equal(p, f.Dirs) || n != y.name || !ok || w.Left() != y.left {
			t.Fatalf("step %d of %q: %v: %q, %v, %q, %v, left %d, not %v", i, path, e, dir, p, n, ok, w.Left(), y)
		}
		f, there := seen.Look(x.s, p, n)
		to := ""
		if f.Kind == api.Link {
			to = x.s.At(f.Level).Target(f.Inode)
		}
		e = w.Tell(f, there, to)
	}
	if e != err {
		t.Fatalf("the end of %q: %v, not %v", path, e, err)
	}
	if err == api.OK {
		ended(t, w, want)
	}
}

// ended: a Walker has come to that Target, whatever it is told then.
func ended(t *testing.T, w *Walker, want Target) {
	t.Helper()
	for _, f := range []seen.Found{{}, {Kind: api.Dir, Dirs: seen.Place{{}}}, {Kind: api.Link}} {
		dir, p, n, ok := w.Ask()
		if dir != "" || len(p) > 0 || n != "" || ok || w.Left() != 0 || !like(w.Target(), want) {
			t.Fatalf("at the end: %q, %v, %q, %v, left %d, at %v, not %v", dir, p, n, ok, w.Left(), w.Target(), want)
		}
		for _, there := range []bool{false, true} {
			if e := w.Tell(f, there, "a"); e != api.EINVAL {
				t.Fatal("told at the end:", e)
			}
		}
	}
}

// paths: all paths of up to so many of these parts, from the root or not.
func paths(parts []string, most int) []string {
	l, last := []string{"/", "."}, []string{""}
	for range most {
		var next []string
		for _, p := range last {
			for _, x := range parts {
				next = append(next, p+"/"+x)
			}
		}
		l, last = append(l, next...), next
	}
	return l
}

// TestAllOf: P11.1, P11.2, P11.3: all short paths, in all that two links, a file and a directory may be to each other.
func TestAllOf(t *testing.T) {
	all := paths([]string{"a", "b", ".."}, 5)
	nodes := func() []api.Node {
		return []api.Node{tree.Text("1"), tree.White(), tree.Link("b"), tree.Link(".."), tree.Link("/a/b"), tree.Link("b/../a"), tree.Link("/")}
	}
	for _, x := range nodes() {
		for _, y := range nodes() {
			for _, s := range []stack.Stack{
				made(t, tree.Dir([]string{"a", "b"}, x, tree.Dir([]string{"a", "b"}, y, tree.Text("2")))),
				made(t, tree.Dir([]string{"a"}, tree.Dir([]string{"a", "b"}, x, y))),
				made(t, tree.Dir([]string{"a", "b"}, tree.Text("1"), x), tree.Dir([]string{"a"}, tree.Dir([]string{"a"}, y))),
				made(t, tree.Dir([]string{"a", "b"}, tree.Dir([]string{"b"}, x), y), tree.Dir([]string{"a"}, tree.Dir([]string{"a"}, y))),
			} {
				for _, p := range all {
					walks(t, s, p, false)
					walks(t, s, p, true)
				}
			}
		}
	}
}

// TestPaths: P11.1, P11.2, P11.3: paths as they are written: with slashes, dots, or what may not be among names.
func TestPaths(t *testing.T) {
	s := made(t, tree.Dir([]string{"a", "f"}, tree.Dir([]string{"...", "b"}, tree.Link("b"), tree.Text("1")), tree.Link("./a//b/.")))
	for _, p := range []string{"/", "//", ".", "./", "..", "/..", "../..", "a", "/a", "//a", "a/", "a//", "a/.", "./a", "a//b", "a/./b", "a/b/", "a/b/.", "a/b/..", "a/..", "a/../..", "../a/b", "/../a/b", "a/...", "a/.../", "a/.../.", "f", "f/", "f/.", "f/..", "f/b"} {
		walks(t, s, p, false)
		walks(t, s, p, true)
	}
	long := strings.Repeat("n", 64)
	for _, p := range []string{"", "\x00", "a/\x00", "a\x00/b", "a/b\x00", long + "n", "a/" + long + "n/b", strings.Repeat("/", 1025), strings.Repeat("a/../", 204) + "a/../"} {
		for _, follow := range []bool{false, true} {
			if y, e := Walk(s, p, follow); e != api.EINVAL || !like(y, Target{}) {
				t.Errorf("Walk of %q: %v, %v", p, y, e)
			}
			if w, e := New(seen.Root(s), p, follow); e != api.EINVAL || w != nil {
				t.Errorf("New of %q: %v, %v", p, w, e)
			}
		}
	}
	for _, p := range []string{long, "a/" + long, strings.Repeat("/", 1024), strings.Repeat("a/../", 204) + "a/..", strings.Repeat("../", 341) + "."} {
		walks(t, s, p, true)
	}
}

// TestExamples: P11.1, P11.2: the chapter's example, and others, written out.
func TestExamples(t *testing.T) {
	low := tree.Dir([]string{"d", "f", "gone", "l", "up"},
		tree.Dir([]string{"abs", "e", "f", "rel"}, tree.Link("/f"), tree.Dir([]string{"x"}, tree.Text("1")), tree.Text("2"), tree.Link("f")),
		tree.Text("3"), tree.Text("4"), tree.Link("d/rel"), tree.Link(".."))
	up := tree.Dir([]string{"d", "gone", "o"}, tree.Dir([]string{"e"}, tree.Dir([]string{"y"}, tree.Link("../../o"))), tree.White(), tree.Opaque(tree.Dir(nil)))
	s := made(t, low, up)
	one, two := seen.Spot{Level: 0, Inode: 1}, seen.Spot{Level: 1, Inode: 1}
	root := Target{"/", seen.Found{Kind: api.Dir, Dirs: seen.Place{{}, {Level: 1}}}}
	d := Target{"/d", seen.Found{Kind: api.Dir, Spot: one, Dirs: seen.Place{one, two}}}
	e := Target{"/d/e", seen.Found{Kind: api.Dir, Spot: seen.Spot{Inode: 2}, Dirs: seen.Place{{Inode: 2}, {Level: 1, Inode: 3}}}}
	o := Target{"/o", seen.Found{Kind: api.Dir, Spot: seen.Spot{Inode: 5}, Dirs: seen.Place{{Inode: 5}}}}
	file := func(path string, kind, level, inode int) Target {
		return Target{path, seen.Found{Kind: kind, Spot: seen.Spot{Level: level, Inode: inode}}}
	}
	for _, x := range []struct {
		path   string
		follow bool
		want   Target
		e      api.Errno
	}{
		{"/", false, root, api.OK}, {"..", true, root, api.OK}, {"d/..", false, root, api.OK}, {"up", true, root, api.OK}, {"up/", false, file("/up", api.Link, 1, 10), api.OK},
		{"d", false, d, api.OK}, {"d/e/..", false, d, api.OK}, {"up/up/d/.", true, d, api.OK}, {"d/e", true, e, api.OK}, {"/d/e/x/.", true, file("/d/e/x", api.File, 1, 4), api.OK},
		{"d/e/y", true, o, api.OK}, {"d/e/y/..", false, root, api.OK}, {"d/e/y/../d/e", false, e, api.OK}, {"d/e/y", false, file("/d/e/y", api.Link, 0, 3), api.OK},
		{"f", true, file("/f", api.File, 1, 7), api.OK}, {"d/f", true, file("/d/f", api.File, 1, 5), api.OK}, {"d/rel", true, file("/d/f", api.File, 1, 5), api.OK}, {"d/abs", true, file("/f", api.File, 1, 7), api.OK},
		{"l", true, file("/d/f", api.File, 1, 5), api.OK}, {"l", false, file("/l", api.Link, 1, 9), api.OK},
		{"f/..", true, Target{}, api.ENOTDIR}, {"f/..", false, Target{}, api.ENOTDIR}, {"f/x", true, Target{}, api.ENOTDIR}, {"l/..", true, Target{}, api.ENOTDIR}, {"d/rel/x", false, Target{}, api.ENOTDIR}, {"f/x/\x00", true, Target{}, api.EINVAL},
		{"gone", true, Target{}, api.ENOENT}, {"gone/..", true, Target{}, api.ENOENT}, {"x/..", true, Target{}, api.ENOENT}, {"d/x", false, Target{}, api.ENOENT}, {"d/e/y/x", false, Target{}, api.ENOENT},
	} {
		if y, e := Walk(s, x.path, x.follow); !like(y, x.want) || e != x.e {
			t.Error("Walk of", x.path, x.follow, y, e, "not", x.want, x.e)
		}
	}
}

// loop: a root with a link l that leads to itself by its target, and a directory d.
func loop(t *testing.T, target string) stack.Stack {
	return made(t, tree.Dir([]string{"d", "f", "l"}, tree.Dir([]string{"l"}, tree.Link(target)), tree.Text("1"), tree.Link(target)))
}

// TestHops: P11.1: forty links are followed, wherever they stand on the way; the next one isn't, and what is behind it is of no matter.
func TestHops(t *testing.T) {
	for _, target := range []string{".", "/", "..", "d/..", "/d/.."} {
		s := loop(t, target)
		at := strings.Repeat("l/", 40)
		for _, x := range []struct {
			path   string
			follow bool
			want   string
			kind   int
			e      api.Errno
		}{
			{at, true, "/", api.Dir, api.OK},
			{at + "d", false, "/d", api.Dir, api.OK},
			{at + "f", true, "/f", api.File, api.OK},
			{at + "l", false, "/l", api.Link, api.OK},
			{at, false, "/l", api.Link, api.OK},
			{at + "f/l", true, "", 0, api.ENOTDIR},
			{at + "x/l", true, "", 0, api.ENOENT},
			{at + "l", true, "", 0, api.ELOOP},
			{at + "l/..", false, "", 0, api.ELOOP},
			{at + "l/x", true, "", 0, api.ELOOP},
			{at + "d/../l/f/x", false, "", 0, api.ELOOP},
			{at + at, false, "", 0, api.ELOOP},
			{at[2:] + "d", false, "/d", api.Dir, api.OK},
		} {
			walks(t, s, x.path, x.follow)
			if y, e := Walk(s, x.path, x.follow); y.Path != x.want || y.Kind != x.kind || e != x.e {
				t.Error("Walk of", x.path, x.follow, "with", target, y, e)
			}
		}
	}
	for _, target := range []string{"l", "./l", "/l", "l/l", "d/l", "d/../l", "l/x", "l/../f", strings.Repeat("l/", 127) + "f"} {
		s := loop(t, target)
		for _, p := range []string{"l", "l/f", "d/l", "l/l", "l/..", "d/../l"} {
			walks(t, s, p, false)
			walks(t, s, p, true)
		}
	}
}

// TestChain: P11.1: links that lead to links: forty, and one more, and that each way begins anew.
func TestChain(t *testing.T) {
	var names []string
	var items []api.Node
	for i := range 42 {
		names, items = append(names, strconv.Itoa(100+i)), append(items, tree.Link(strconv.Itoa(99+i)))
	}
	items[0] = tree.Link("z/f")
	s := made(t, tree.Dir(append(names, "z"), append(items, tree.Dir([]string{"d", "f"}, tree.Link("/139"), tree.Text("1")))...))
	for range 2 {
		for i := range 42 {
			for _, p := range []string{names[i], names[i] + "/..", "z/../" + names[i], "z/d"} {
				walks(t, s, p, true)
				walks(t, s, p, false)
			}
			y, e := Walk(s, names[i], true)
			if i < 40 && (e != api.OK || y.Path != "/z/f") || i >= 40 && e != api.ELOOP {
				t.Error("Walk along", i+1, "links:", y, e)
			}
		}
		if _, e := Walk(s, "z/d", true); e != api.ELOOP {
			t.Error("Walk along a link and forty links:", e)
		}
	}
}

// TestLimits: P11.1, P11.2: the deepest trees, the longest names, targets and paths; no branches, and 64 of them.
func TestLimits(t *testing.T) {
	long := strings.Repeat("n", 64)
	deep := tree.Dir([]string{long}, tree.Link(strings.Repeat("../", 85)+"n"))
	for range 13 {
		deep = tree.Dir([]string{"l", long}, tree.Link("/"+long+"/"+long+"/"+long), deep)
	}
	s := made(t, tree.Dir([]string{"n", long}, tree.Text("1"), deep))
	for i := range 16 {
		p := strings.Repeat(long+"/", i)
		for _, x := range []string{p, p + "l", p + "l/l/l", p + strings.Repeat("../", i), p + "../.."} {
			if x != "" {
				walks(t, s, x, true)
				walks(t, s, x, false)
			}
		}
	}
	if y, e := Walk(s, strings.Repeat(long+"/", 15), true); e != api.OK || y.Path != "/n" {
		t.Error("Walk to the deepest link:", y, e)
	}
	if y, e := Walk(s, strings.Repeat(long+"/", 14)+"..", false); e != api.OK || y.Path != strings.Repeat("/"+long, 13) {
		t.Error("Walk back:", y, e)
	}
	for _, p := range []string{"/", "..", ".", "a", "a/..", "../a"} {
		walks(t, stack.Stack{}, p, true)
	}
	if y, e := Walk(stack.Stack{}, "../.", true); e != api.OK || !like(y, Target{"/", seen.Found{Kind: api.Dir}}) {
		t.Error("Walk on no branches:", y, e)
	}
	u := made(t, slices.Repeat([]api.Node{tree.Dir([]string{"a", "b"}, tree.Dir([]string{"b"}, tree.Dir(nil)), tree.Link("a/b"))}, 64)...)
	for _, p := range []string{"/", "a", "a/b", "b", "b/..", "b/../b/../.."} {
		walks(t, u, p, true)
	}
	if y, e := Walk(u, "b", true); e != api.OK || len(y.Dirs) != 64 || y.Dirs[63] != (seen.Spot{Level: 63, Inode: 2}) {
		t.Error("Walk on 64 branches:", y, e)
	}
}

// TestOpaque: P11.2: of the root, Dirs are those of layer 8's Root, and its Spot is the first of them.
func TestOpaque(t *testing.T) {
	s := made(t, tree.Dir([]string{"a"}, tree.Text("1")), tree.Opaque(tree.Dir([]string{"b"}, tree.Dir(nil))), tree.Dir(nil))
	for _, p := range []string{"/", "b/..", "..", "a"} {
		walks(t, s, p, true)
	}
	y, _ := Walk(s, "b/..", true)
	if !like(y, Target{"/", seen.Found{Kind: api.Dir, Dirs: seen.Place{{}, {Level: 1}}}}) {
		t.Error("the root:", y)
	}
	w, e := New(seen.Place{{Level: 3, Inode: 9}, {Level: 5, Inode: 2}}, ".", true)
	if e != api.OK || !like(w.Target(), Target{"/", seen.Found{Kind: api.Dir, Spot: seen.Spot{Level: 3, Inode: 9}, Dirs: seen.Place{{Level: 3, Inode: 9}, {Level: 5, Inode: 2}}}}) {
		t.Error("a root of its own:", e)
	}
}

// dir: a directory that is found, told by a number.
func dir(i int) seen.Found {
	x := seen.Spot{Level: i % 64, Inode: i}
	return seen.Found{Kind: api.Dir, Spot: x, Dirs: seen.Place{x, {Level: 63, Inode: -i}}}
}

// TestTold: P11.3: where it goes hangs on what it is told, on no Stack; parts of links come in place of them, and up it goes to the directories that it was told of.
func TestTold(t *testing.T) {
	w, e := New(seen.Place{{Inode: 7}}, "a/b/../c/l/d/m", false)
	if e != api.OK || w.Left() != 7 {
		t.Fatal("New:", e)
	}
	for i, x := range []struct {
		path  string
		inode int
		name  string
		left  int
		told  seen.Found
		to    string
	}{
		{"/", 7, "a", 7, dir(1), ""},
		{"/a", 1, "b", 6, dir(2), ""},
		{"/a", 1, "c", 4, dir(3), "/never"},
		{"/a/c", 3, "l", 3, seen.Found{Kind: api.Link}, "../x/./y"},
		{"/a", 1, "x", 4, dir(4), ""},
		{"/a/x", 4, "y", 3, seen.Found{Kind: api.Link}, "/z/.."},
		{"/", 7, "z", 4, dir(5), ""},
		{"/", 7, "d", 2, dir(6), ""},
		{"/d", 6, "m", 1, seen.Found{Kind: api.Link, Spot: seen.Spot{Inode: 8}}, "a"},
	} {
		for range 2 {
			path, p, n, ok := w.Ask()
			if path != x.path || len(p) == 0 || p[0].Inode != x.inode || n != x.name || !ok || w.Left() != x.left {
				t.Fatal("step", i, path, p, n, ok, w.Left())
			}
		}
		if e := w.Tell(x.told, true, x.to); e != api.OK {
			t.Fatal("step", i, e)
		}
	}
	ended(t, w, Target{"/d/m", seen.Found{Kind: api.Link, Spot: seen.Spot{Inode: 8}}})
}

// TestErrors: P11.3, P2: Tell's errors, in their order; of what was refused nothing is left behind.
func TestErrors(t *testing.T) {
	file, link := seen.Found{Kind: api.File}, seen.Found{Kind: api.Link}
	for _, x := range []struct {
		path   string
		follow bool
		f      seen.Found
		there  bool
		to     string
		e      api.Errno
	}{
		{"a", true, file, true, "", api.OK}, {"a/b", true, file, true, "", api.ENOTDIR}, {"a/..", false, file, true, "", api.ENOTDIR}, {"a/.", false, file, true, "", api.OK},
		{"a", true, file, false, "", api.ENOENT}, {"a/b", true, dir(1), false, "", api.ENOENT}, {"a/b", false, seen.Found{}, false, "", api.ENOENT},
		{"a", true, link, true, "", api.EINVAL}, {"a/b", false, link, true, "\x00", api.EINVAL}, {"a", false, link, true, "", api.OK}, {"a", true, link, true, "b", api.OK}, {"a", true, link, false, "b", api.ENOENT},
		{"..", true, file, true, "", api.EINVAL}, {"/", true, dir(1), true, "", api.EINVAL}, {"../..", true, seen.Found{}, false, "", api.EINVAL}, {"../a", true, dir(1), true, "", api.OK},
	} {
		w, e := New(seen.Place{{}}, x.path, x.follow)
		if e != api.OK {
			t.Fatal(e)
		}
		path, p, n, ok := w.Ask()
		left := w.Left()
		if e := w.Tell(x.f, x.there, x.to); e != x.e {
			t.Error("Tell on", x.path, x.follow, x.f, x.there, x.to, e, "not", x.e)
		}
		if x.e == api.OK {
			continue
		}
		if path2, p2, n2, ok2 := w.Ask(); path != path2 || !slices.Equal(p, p2) || n != n2 || ok != ok2 || left != w.Left() {
			t.Error("Tell on", x.path, "left", path2, p2, n2, ok2)
		}
	}
}

// TestTellHops: P11.3: told of links without end: ELOOP at the one behind forty, whatever it leads to.
func TestTellHops(t *testing.T) {
	for _, path := range []string{"a", "a/b", "a/.."} {
		for _, to := range []string{"c", "/c/d", "../c", "./c/.."} {
			w, _ := New(nil, path, true)
			for i := range 40 {
				if e := w.Tell(seen.Found{Kind: api.Link}, true, to); e != api.OK {
					t.Fatal("link", i, e)
				}
			}
			for _, x := range []string{to, "/", "", "\x00"} {
				if e := w.Tell(seen.Found{Kind: api.Link}, true, x); e != api.ELOOP {
					t.Error("the link behind forty:", e)
				}
			}
		}
	}
}

// TestDeepWay: P11.3: as deep as a path leads, down and up; no directory takes another one's place.
func TestDeepWay(t *testing.T) {
	down := strings.Repeat("a/", 256)
	w, e := New(seen.Place{{}}, down+strings.Repeat("../", 170)+"b", true)
	if e != api.OK || w.Left() != 427 {
		t.Fatal("New:", e)
	}
	for i := range 256 {
		path, _, _, _ := w.Ask()
		if len(path) != max(2*i, 1) || w.Tell(dir(i), true, "") != api.OK {
			t.Fatal("on the way down:", i, path)
		}
	}
	path, p, n, ok := w.Ask()
	if path != strings.Repeat("/a", 86) || !slices.Equal(p, dir(85).Dirs) || n != "b" || !ok || w.Left() != 1 {
		t.Error("on the way up:", path, p, n, ok, w.Left())
	}
	// From here down again by another way, and up it by link, as far as where the two ways part.
	for i, to := range []string{"c/../d/e", "../f/../g"} {
		if e := w.Tell(seen.Found{Kind: api.Link}, true, to); e != api.OK {
			t.Fatal("link", i, e)
		}
		for w.Left() > 1 {
			if e := w.Tell(dir(1000+i), true, ""); e != api.OK {
				t.Fatal("link", i, e)
			}
		}
	}
	path, p, n, _ = w.Ask()
	if path != strings.Repeat("/a", 86) || !slices.Equal(p, dir(85).Dirs) || n != "g" {
		t.Error("behind the links:", path, p, n)
	}
}

// TestHandedIn: P2: places that are handed in are neither changed nor kept, nor the room behind them.
func TestHandedIn(t *testing.T) {
	room := func(p seen.Place) seen.Place {
		return append(append(make(seen.Place, 0, len(p)+3), p...), seen.Place{{Inode: -1}, {Inode: -2}, {Inode: -3}}...)
	}
	root, under := room(seen.Place{{}, {Level: 1}}), room(dir(5).Dirs)
	w, e := New(root[:2], "a/b/../..", false)
	if e != api.OK {
		t.Fatal(e)
	}
	f := dir(5)
	f.Dirs = under[:2]
	if e := w.Tell(f, true, ""); e != api.OK {
		t.Fatal(e)
	}
	if !slices.Equal(root, room(seen.Place{{}, {Level: 1}})) || !slices.Equal(under, room(dir(5).Dirs)) {
		t.Error("changed what was handed in:", root, under)
	}
	clear(root)
	clear(under)
	if _, p, _, _ := w.Ask(); !slices.Equal(p, dir(5).Dirs) {
		t.Error("Tell kept what was handed in:", p)
	}
	f = dir(6)
	if e := w.Tell(f, true, ""); e != api.OK {
		t.Fatal(e)
	}
	if y := w.Target(); !like(y, Target{"/", seen.Found{Kind: api.Dir, Dirs: seen.Place{{}, {Level: 1}}}}) {
		t.Error("New kept what was handed in:", y)
	}
	v, _ := New(seen.Place{{}}, "a", true)
	v.Tell(f, true, "")
	clear(f.Dirs)
	if y := v.Target(); !like(y, Target{"/a", dir(6)}) {
		t.Error("Tell kept what was handed in:", y)
	}
}

// TestAnswered: P2: what is answered is new memory, each time.
func TestAnswered(t *testing.T) {
	w, _ := New(seen.Place{{}, {Level: 1}}, "a/b", false)
	for range 3 {
		_, p, _, _ := w.Ask()
		if !slices.Equal(p, seen.Place{{}, {Level: 1}}) {
			t.Fatal("Ask:", p)
		}
		_ = append(p, seen.Spot{Inode: 9})
		p[0], p[1] = seen.Spot{Inode: 8}, seen.Spot{Inode: 9}
	}
	w.Tell(dir(1), true, "")
	for range 3 {
		_, p, _, _ := w.Ask()
		if !slices.Equal(p, dir(1).Dirs) {
			t.Fatal("Ask:", p)
		}
		clear(p)
	}
	w.Tell(dir(2), true, "")
	for range 3 {
		y := w.Target()
		if !like(y, Target{"/a/b", dir(2)}) {
			t.Fatal("Target:", y)
		}
		clear(y.Dirs)
	}
	s := made(t, tree.Dir([]string{"a"}, tree.Dir(nil)), tree.Dir([]string{"a"}, tree.Dir(nil)))
	for range 3 {
		for _, p := range []string{"/", "a", "a/.."} {
			walks(t, s, p, true)
			y, _ := Walk(s, p, true)
			clear(y.Dirs)
		}
	}
}

// TestApart: P2: Walkers go each its own way.
func TestApart(t *testing.T) {
	a := made(t, tree.Dir([]string{"a", "b"}, tree.Dir([]string{"b"}, tree.Text("1")), tree.Link("a/b")))
	b := made(t, tree.Dir([]string{"a", "b"}, tree.Link("b"), tree.Dir([]string{"b"}, tree.Dir(nil))))
	v, _ := New(seen.Root(a), "b", true)
	w, _ := New(seen.Root(b), "a/b/..", true)
	for range 4 {
		for _, x := range []struct {
			w *Walker
			s stack.Stack
		}{{v, a}, {w, b}} {
			if _, p, n, ok := x.w.Ask(); ok {
				f, there := seen.Look(x.s, p, n)
				to := map[bool]string{true: "a/b", false: "b"}[x.w == v]
				if e := x.w.Tell(f, there, to); e != api.OK {
					t.Fatal(e)
				}
			}
		}
	}
	if v.Target().Path != "/a/b" || v.Target().Kind != api.File || w.Target().Path != "/b" || w.Target().Kind != api.Dir {
		t.Error("Targets:", v.Target(), w.Target())
	}
}

// TestCopy: the way behind a Walker is never written over: of two that share it, each goes on alone.
func TestCopy(t *testing.T) {
	v, _ := New(seen.Place{{}}, "a/b/c/../../d/e", true)
	for i := range 3 {
		v.Tell(dir(i), true, "")
	}
	w := *v
	v.Tell(dir(8), true, "")
	w.Tell(dir(9), true, "")
	v.Tell(seen.Found{Kind: api.Link}, true, ".")
	w.Tell(seen.Found{Kind: api.Link}, true, "..")
	if !like(v.Target(), Target{"/a/d", dir(8)}) || !like(w.Target(), Target{"/a", dir(0)}) {
		t.Error("Targets:", v.Target(), w.Target())
	}
}

// TestTypes: rule 6: a Target has what is found, and where.
func TestTypes(t *testing.T) {
	x := Target{Path: "/a", Found: seen.Found{Kind: api.Dir, Spot: seen.Spot{Level: 1, Inode: 2}}}
	if x.Kind != api.Dir || x.Level != 1 || x.Inode != 2 || MaxHops != 40 {
		t.Error("Target")
	}
}

// TestAllArguments: P1: all calls end, and none panics, whatever the paths, places and what is told.
func TestAllArguments(t *testing.T) {
	texts := []string{"", "/", ".", "..", "a", "a/b", "../..", "\x00", "\xff", "a/\xff/..", strings.Repeat("../", 341), strings.Repeat("a/", 512), strings.Repeat("a", 5000)}
	numbers := []int{math.MinInt, -1, 0, 1, 2, 3, 4, 64, math.MaxInt}
	odd, _, _ := stack.Stack{}.Add(nil)
	for _, s := range []stack.Stack{{}, odd, made(t, tree.Dir([]string{"a"}, tree.Link("a/a")))} {
		for _, p := range texts {
			Walk(s, p, false)
			Walk(s, p, true)
		}
	}
	for _, p := range texts {
		for _, to := range texts {
			for _, k := range numbers {
				for _, follow := range []bool{false, true} {
					w, e := New(seen.Place{{Level: k, Inode: k}}, p, follow)
					if e != api.OK {
						continue
					}
					for i := range 600 {
						w.Tell(seen.Found{Kind: k, Spot: seen.Spot{Level: k}, Dirs: make(seen.Place, i%3)}, i%7 > 0, to)
						w.Ask()
						w.Left()
						w.Target()
					}
				}
			}
		}
	}
}
