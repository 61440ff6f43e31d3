package spec

import (
	"math"
	"reflect"
	"slices"
	"strconv"
	"strings"
	"testing"

	"socage/api"
	"socage/branch"
	"socage/cursor"
	"socage/image"
	"socage/merge"
	"socage/stack"
	"socage/tree"
	"socage/union"
)

// made: the Stack of trees, the uppermost one last.
func made(t *testing.T, trees ...api.Node) stack.Stack {
	t.Helper()
	s, e := stack.Of(trees...)
	if e != api.OK {
		t.Fatal(e)
	}
	return s
}

// imageOf: a tree as bytes.
func imageOf(t *testing.T, n api.Node) string {
	t.Helper()
	s, e := image.Encode(n)
	if e != api.OK {
		t.Fatal(e)
	}
	return s
}

// branchOf: the Branch of a tree.
func branchOf(t *testing.T, n api.Node) *branch.Branch {
	t.Helper()
	b, e := branch.New(n)
	if e != api.OK {
		t.Fatal(e)
	}
	return b
}

// many: a directory of so many files: f0000, f0001 ...
func many(n int) api.Node {
	var names []string
	for i := range n {
		names = append(names, "f"+strconv.Itoa(10000 + i)[1:])
	}
	return tree.Dir(names, slices.Repeat([]api.Node{tree.Text("")}, n)...)
}

// some: a tree with directories, files and links.
func some() api.Node {
	return tree.Dir([]string{"d", "e", "f", "l", "m", "n"}, tree.Dir([]string{"a", "b", "c"}, tree.Text("1"), tree.Link("x"), tree.Dir(nil)), tree.Dir(nil), tree.Text("hello"), tree.Link("d"), tree.Link("f"), tree.Link("n"))
}

// is: two Results are the same; a list without items may be nil or not.
func is(a, b api.Result) bool {
	names := slices.Equal(a.Names, b.Names)
	a.Names, b.Names = nil, nil
	return names && reflect.DeepEqual(a, b)
}

// does: Do answers that.
func does(t *testing.T, s *State, op api.Op, want api.Result) {
	t.Helper()
	if r := s.Do(op); !is(r, want) {
		t.Errorf("Do of %.200v: %v, not %v", op, r, want)
	}
}

// opens: Do of an Open answers that number.
func opens(t *testing.T, s *State, path string, id int) {
	t.Helper()
	does(t, s, api.Op{Kind: api.Open, Path: path}, api.Result{ID: id})
}

// fails: Do answers that error, and nothing else.
func fails(t *testing.T, s *State, op api.Op, e api.Errno) {
	t.Helper()
	does(t, s, op, api.Result{Err: e})
}

// pages: Do of a Page answers these names.
func pages(t *testing.T, s *State, id, n int, end bool, names ...string) {
	t.Helper()
	does(t, s, api.Op{Kind: api.Page, ID: id, N: n}, api.Result{Names: names, End: end})
}

// has: the Cursor of that number.
func has(t *testing.T, s *State, id int, want cursor.Cursor) {
	t.Helper()
	if c, e := s.Get(id); c != want || e != api.OK {
		t.Errorf("Get(%d): %v, %v, not %v", id, c, e, want)
	}
}

// counted: so many branches, that epoch, so many cursors and room for so many.
func counted(t *testing.T, s *State, branches, epoch, open, room int) {
	t.Helper()
	if s.Stack.Len() != branches || s.Epoch != epoch || s.Len() != open || s.Room() != room {
		t.Errorf("%d branches, epoch %d, %d cursors, room for %d, not %d, %d, %d, %d", s.Stack.Len(), s.Epoch, s.Len(), s.Room(), branches, epoch, open, room)
	}
}

// TestExamples: P20.1: the chapter's example, written out.
func TestExamples(t *testing.T) {
	s := New(made(t, some()), 4)
	opens(t, s, "/d", 1)
	does(t, s, api.Op{Kind: api.Add, Image: imageOf(t, tree.Dir(nil))}, api.Result{ID: 1})
	fails(t, s, api.Op{Kind: api.Page, ID: 1, N: 1}, api.ESTALE)
}

// TestNew: P20.1: these branches, epoch 0, and room as layer 18 has it: one at least, 1024 at most.
func TestNew(t *testing.T) {
	st := made(t, some(), many(3))
	for _, x := range []struct{ cursors, room int }{{math.MinInt, 1}, {-1, 1}, {0, 1}, {1, 1}, {2, 2}, {1023, 1023}, {1024, 1024}, {1025, 1024}, {1<<32 + 1, 1024}, {math.MaxInt, 1024}} {
		s := New(st, x.cursors)
		counted(t, s, 2, 0, 0, x.room)
		for k := range 2 {
			if s.Stack.At(k) != st.At(k) || s.Stack.ID(k) != st.ID(k) {
				t.Error("other branches")
			}
		}
		for i := range x.room {
			opens(t, s, "/", i+1)
		}
		fails(t, s, api.Op{Kind: api.Open, Path: "/"}, api.EMFILE)
		counted(t, s, 2, 0, x.room, x.room)
	}
	counted(t, New(stack.Stack{}, 3), 0, 0, 0, 3)
}

// TestOpen: P20.1: a Cursor of the directory's own path, of the epoch, at its beginning; List's error, even where there is no room.
func TestOpen(t *testing.T) {
	s := New(made(t, some()), 3)
	errors := []struct {
		path string
		e    api.Errno
	}{{"", api.EINVAL}, {"a\x00", api.EINVAL}, {strings.Repeat("a", 65), api.EINVAL}, {"f", api.ENOTDIR}, {"m", api.ENOTDIR}, {"f/..", api.ENOTDIR}, {"n", api.ELOOP}, {"x", api.ENOENT}, {"d/b", api.ENOENT}, {"d/x/..", api.ENOENT}}
	dirs := []struct{ path, dir string }{{"l/../l/.", "/d"}, {"..", "/"}, {"d//c/", "/d/c"}}
	for i, x := range dirs {
		for _, y := range errors {
			fails(t, s, api.Op{Kind: api.Open, Path: y.path}, y.e)
		}
		counted(t, s, 1, 0, i, 3)
		opens(t, s, x.path, i+1)
		has(t, s, i+1, cursor.Cursor{Dir: x.dir})
	}
	for _, y := range errors {
		fails(t, s, api.Op{Kind: api.Open, Path: y.path}, y.e)
	}
	for _, x := range dirs {
		fails(t, s, api.Op{Kind: api.Open, Path: x.path}, api.EMFILE)
	}
	does(t, s, api.Op{Kind: api.Remove}, api.Result{})
	does(t, s, api.Op{Kind: api.Close, ID: 2}, api.Result{})
	fails(t, s, api.Op{Kind: api.Open, Path: "d"}, api.ENOENT)
	opens(t, s, "../.", 4)
	has(t, s, 4, cursor.Cursor{Epoch: 1, Dir: "/"})
	counted(t, s, 0, 1, 3, 3)
}

// TestPage: P20.1: page by page, each Cursor from where it is on; the end, as soon as none is behind; what is beyond the end counts for nothing.
func TestPage(t *testing.T) {
	for _, n := range []int{0, 1, 2, 5, 30} {
		for _, by := range []int{1, 2, 3, 5, 29, 30, 31, math.MaxInt} {
			root := many(n)
			s := New(made(t, root), 3)
			for id := range 3 {
				opens(t, s, "/", id+1)
			}
			for at, end := 0, false; !end; {
				to := at + min(by, n-at)
				end = to == n
				pages(t, s, 2, by, end, root.Names[at:to]...)
				has(t, s, 2, cursor.Cursor{Dir: "/", At: to})
				at = to
			}
			for range 2 {
				pages(t, s, 2, by, true)
				has(t, s, 2, cursor.Cursor{Dir: "/", At: n})
			}
			pages(t, s, 3, by, by >= n, root.Names[:min(by, n)]...)
			has(t, s, 1, cursor.Cursor{Dir: "/"})
		}
	}
}

// TestPageErrors: P20.1: that which is named first, and the Cursor stays where it is.
func TestPageErrors(t *testing.T) {
	s := New(made(t, some()), 3)
	opens(t, s, "d", 1)
	pages(t, s, 1, 1, false, "a")
	for _, n := range []int{0, -1, math.MinInt} {
		for _, id := range []int{math.MinInt, -1, 0, 1, 2, math.MaxInt} {
			fails(t, s, api.Op{Kind: api.Page, ID: id, N: n}, api.EINVAL)
		}
	}
	for _, id := range []int{math.MinInt, -1, 0, 2, 1<<32 + 1, math.MaxInt} {
		fails(t, s, api.Op{Kind: api.Page, ID: id, N: 1}, api.EBADF)
	}
	has(t, s, 1, cursor.Cursor{Dir: "/d", At: 1})
	does(t, s, api.Op{Kind: api.Add, Image: imageOf(t, some())}, api.Result{ID: 1})
	opens(t, s, "d", 2)
	for range 2 {
		fails(t, s, api.Op{Kind: api.Page, ID: 1}, api.EINVAL)
		fails(t, s, api.Op{Kind: api.Page, ID: 1, N: 1}, api.ESTALE)
		fails(t, s, api.Op{Kind: api.Page, ID: 3, N: 1}, api.EBADF)
		has(t, s, 1, cursor.Cursor{Dir: "/d", At: 1})
	}
	pages(t, s, 2, 2, false, "a", "b")
	// Another epoch, though it has the same branches again, isn't that one.
	does(t, s, api.Op{Kind: api.Remove, ID: 1}, api.Result{})
	fails(t, s, api.Op{Kind: api.Page, ID: 1, N: 1}, api.ESTALE)
	fails(t, s, api.Op{Kind: api.Page, ID: 2, N: 1}, api.ESTALE)
	does(t, s, api.Op{Kind: api.Close, ID: 1}, api.Result{})
	fails(t, s, api.Op{Kind: api.Page, ID: 1, N: 1}, api.EBADF)
	counted(t, s, 1, 2, 1, 3)
}

// TestSeen: P20.1: a page has what is seen, of directories that are one, without what is hidden.
func TestSeen(t *testing.T) {
	s := New(made(t, some()), 9)
	does(t, s, api.Op{Kind: api.Add, Image: imageOf(t, tree.Dir([]string{"d", "e", "f"}, tree.Dir([]string{"a", "z"}, tree.White(), tree.Text("")), tree.Opaque(tree.Dir([]string{"y"}, tree.Text(""))), tree.White()))}, api.Result{ID: 1})
	opens(t, s, "/", 1)
	opens(t, s, "l", 2)
	opens(t, s, "e", 3)
	pages(t, s, 1, 9, true, "d", "e", "l", "m", "n")
	pages(t, s, 2, 3, true, "b", "c", "z")
	pages(t, s, 3, 1, true, "y")
}

// TestClose: P20.1: of one that is open, whatever epoch it is of; EBADF of others.
func TestClose(t *testing.T) {
	s := New(made(t, some()), 3)
	fails(t, s, api.Op{Kind: api.Close}, api.EBADF)
	for id := 1; id <= 3; id++ {
		opens(t, s, "d", id)
	}
	does(t, s, api.Op{Kind: api.Remove}, api.Result{})
	for _, id := range []int{math.MinInt, -1, 0, 4, 1<<32 + 1, math.MaxInt} {
		fails(t, s, api.Op{Kind: api.Close, ID: id}, api.EBADF)
	}
	counted(t, s, 0, 1, 3, 3)
	for i, id := range []int{2, 1, 3} {
		does(t, s, api.Op{Kind: api.Close, ID: id, N: -1, Off: -1, Path: "x"}, api.Result{})
		counted(t, s, 0, 1, 2-i, 3)
		fails(t, s, api.Op{Kind: api.Close, ID: id}, api.EBADF)
	}
	opens(t, s, "/", 4)
}

// TestAdd: P20.1: upon all others, with the next number; EINVAL of what is no image, even where there is no room; 64 branches, and one more.
func TestAdd(t *testing.T) {
	s := New(made(t, some()), 3)
	small := imageOf(t, tree.Dir([]string{"f"}, tree.Text("12")))
	wrong := []string{"", "x", small[:len(small)-1], small + "\x00", "X" + small[1:], strings.Repeat("\x00", 100)}
	for i := 1; i < 64; i++ {
		for _, x := range wrong {
			fails(t, s, api.Op{Kind: api.Add, Image: x}, api.EINVAL)
		}
		counted(t, s, i, i-1, 0, 3)
		does(t, s, api.Op{Kind: api.Add, Image: imageOf(t, tree.Dir([]string{"f"}, tree.Text(strings.Repeat("x", i))))}, api.Result{ID: i})
		does(t, s, api.Op{Kind: api.Stat, Path: "m"}, api.Result{Kind: api.File, Size: i})
		does(t, s, api.Op{Kind: api.Lookup, Path: "f"}, api.Result{Kind: api.File, Where: i})
		counted(t, s, i+1, i, 0, 3)
	}
	for range 2 {
		fails(t, s, api.Op{Kind: api.Add, Image: small}, api.ENOSPC)
		for _, x := range wrong {
			fails(t, s, api.Op{Kind: api.Add, Image: x}, api.EINVAL)
		}
		counted(t, s, 64, 63, 0, 3)
	}
	does(t, s, api.Op{Kind: api.Remove, ID: 5}, api.Result{})
	does(t, s, api.Op{Kind: api.Add, Image: small}, api.Result{ID: 64})
	does(t, s, api.Op{Kind: api.Stat, Path: "f"}, api.Result{Kind: api.File, Size: 2})
	counted(t, s, 64, 65, 0, 3)
}

// TestRemove: P20.1: that branch is no more, the others are as they were; ENOENT of others.
func TestRemove(t *testing.T) {
	s := New(made(t, many(1), many(2), many(3)), 3)
	for _, id := range []int{math.MinInt, -1, 3, 1 << 32, 1<<32 + 1, math.MaxInt} {
		fails(t, s, api.Op{Kind: api.Remove, ID: id}, api.ENOENT)
	}
	counted(t, s, 3, 0, 0, 3)
	does(t, s, api.Op{Kind: api.Remove, ID: 2, N: -1, Off: -1, Path: "x", Image: "x"}, api.Result{})
	counted(t, s, 2, 1, 0, 3)
	does(t, s, api.Op{Kind: api.Lookup, Path: "f0001"}, api.Result{Kind: api.File, Where: 1})
	fails(t, s, api.Op{Kind: api.Lookup, Path: "f0002"}, api.ENOENT)
	fails(t, s, api.Op{Kind: api.Remove, ID: 2}, api.ENOENT)
	does(t, s, api.Op{Kind: api.Remove, ID: 0}, api.Result{})
	does(t, s, api.Op{Kind: api.Lookup, Path: "f0000"}, api.Result{Kind: api.File, Where: 1})
	does(t, s, api.Op{Kind: api.Remove, ID: 1}, api.Result{})
	does(t, s, api.Op{Kind: api.Lookup, Path: "/"}, api.Result{Kind: api.Dir, Where: -1})
	fails(t, s, api.Op{Kind: api.Remove, ID: 1}, api.ENOENT)
	counted(t, s, 0, 3, 0, 3)
	does(t, s, api.Op{Kind: api.Add, Image: imageOf(t, many(1))}, api.Result{ID: 3})
	counted(t, s, 1, 4, 0, 3)
}

// TestOthers: P20.1: what layer 12 does of the others, on the Stack as it is then.
func TestOthers(t *testing.T) {
	s := New(made(t, some()), 3)
	for _, change := range []api.Op{{Kind: api.Close}, {Kind: api.Add, Image: imageOf(t, tree.Dir([]string{"d", "f"}, tree.White(), tree.Link("e")))}, {Kind: api.Remove, ID: 0}, {Kind: api.Remove, ID: 1}} {
		s.Do(change)
		epoch := s.Epoch
		for _, kind := range []int{math.MinInt, -1, 0, api.Lookup, api.Stat, api.Readlink, api.ReadAt, 10, 77, 1<<32 + 5, math.MaxInt} {
			for _, path := range []string{"", "/", "d", "e", "f", "l", "m", "n", "d/b", "l/a", "l/a/x", "f/x"} {
				for _, n := range []int{-1, 0, 1, 9} {
					op := api.Op{Kind: kind, Path: path, Off: n, N: 3 * n, ID: 1}
					does(t, s, op, union.Do(s.Stack, op))
				}
			}
		}
		if s.Epoch != epoch || s.Len() != 0 {
			t.Error("what was asked has changed the state")
		}
	}
}

// TestDirect: P20.2: Add, Remove and Begin are what Do does of such calls, with that Branch, that number, that path.
func TestDirect(t *testing.T) {
	n := tree.Dir([]string{"d"}, tree.Dir(nil))
	small, b := imageOf(t, n), branchOf(t, n)
	s, d := New(made(t, some()), 60), New(made(t, some()), 60)
	same := func(what string, a, b api.Result) {
		t.Helper()
		if !is(a, b) {
			t.Fatalf("%s: %v, not %v", what, a, b)
		}
		counted(t, s, d.Stack.Len(), d.Epoch, d.Len(), d.Room())
		for k := range d.Stack.Len() {
			if s.Stack.ID(k) != d.Stack.ID(k) {
				t.Fatal(what, "other branches")
			}
		}
		for id := -1; id < 70; id++ {
			c, e := s.Get(id)
			if x, f := d.Get(id); c != x || e != f {
				t.Fatal(what, "other cursors:", c, e, x, f)
			}
		}
	}
	for i := range 70 {
		same("Add", s.Add(b), d.Do(api.Op{Kind: api.Add, Image: small}))
		if i < 60 && s.Stack.At(0) != b {
			t.Error("another Branch")
		}
		same("Begin", s.Begin("/"), d.Do(api.Op{Kind: api.Open, Path: "/"}))
		if i < 60 {
			has(t, s, i+1, cursor.Cursor{Epoch: i + 1, Dir: "/"})
		}
	}
	same("Begin", s.Begin("/d"), d.Do(api.Op{Kind: api.Open, Path: "d"}))
	same("Add", s.Add(b), d.Do(api.Op{Kind: api.Add, Image: small}))
	for _, id := range []int{math.MinInt, -1, 64, 63, 0, 5, 0, 5, 6, math.MaxInt} {
		same("Remove", s.Remove(id), d.Do(api.Op{Kind: api.Remove, ID: id}))
	}
	for id := 1; id < 4; id++ {
		if s.Close(id) != api.OK || d.Close(id) != api.OK {
			t.Error("Close")
		}
	}
	same("Begin", s.Begin("/d"), d.Do(api.Op{Kind: api.Open, Path: "d/../d/."}))
	has(t, s, 61, cursor.Cursor{Epoch: s.Epoch, Dir: "/d"})
}

// TestStale: P20.2: the Cursor itself; the zero one beside EBADF, and ESTALE.
func TestStale(t *testing.T) {
	s := New(made(t, some()), 3)
	check := func(id int, want cursor.Cursor, e api.Errno) {
		t.Helper()
		if c, f := s.Stale(id); c != want || f != e {
			t.Errorf("Stale(%d): %v, %v, not %v, %v", id, c, f, want, e)
		}
	}
	none := cursor.Cursor{}
	opens(t, s, "d", 1)
	pages(t, s, 1, 2, false, "a", "b")
	for range 2 {
		for _, id := range []int{math.MinInt, -1, 0, 2, 1<<32 + 1, math.MaxInt} {
			check(id, none, api.EBADF)
		}
		check(1, cursor.Cursor{Dir: "/d", At: 2}, api.OK)
	}
	does(t, s, api.Op{Kind: api.Remove}, api.Result{})
	opens(t, s, "/", 2)
	check(1, none, api.ESTALE)
	check(2, cursor.Cursor{Epoch: 1, Dir: "/"}, api.OK)
	check(3, none, api.EBADF)
	fails(t, s, api.Op{Kind: api.Remove}, api.ENOENT)
	check(2, cursor.Cursor{Epoch: 1, Dir: "/"}, api.OK)
	s.Add(branchOf(t, some()))
	check(1, none, api.ESTALE)
	check(2, none, api.ESTALE)
	s.Do(api.Op{Kind: api.Close, ID: 2})
	check(2, none, api.EBADF)
	counted(t, s, 1, 2, 1, 3)
	// The table's own Open takes any epoch, a later one too.
	for _, epoch := range []int{3, -1} {
		id, _ := s.Open(epoch, "/d")
		check(id, none, api.ESTALE)
		fails(t, s, api.Op{Kind: api.Page, ID: id, N: 1}, api.ESTALE)
	}
}

// TestPageOf: P20.2: of entries that are handed in, from where the Cursor is on; all of a Page's errors.
func TestPageOf(t *testing.T) {
	entries := func(names ...string) []merge.Entry {
		var l []merge.Entry
		for _, n := range names {
			l = append(l, merge.Entry{Name: n, Kind: api.File})
		}
		return l
	}
	l := entries("a", "b", "c", "d", "e")
	s := New(made(t, some()), 3)
	opens(t, s, "d", 1)
	page := func(id, n int, l []merge.Entry, want api.Result, at int) {
		t.Helper()
		if r := s.Page(api.Op{Kind: api.Page, ID: id, N: n}, l); !is(r, want) {
			t.Errorf("Page of %d, %d, %v: %v, not %v", id, n, l, r, want)
		}
		if c, _ := s.Get(1); c.At != at || c.Dir != "/d" {
			t.Error("the Cursor is", c)
		}
	}
	page(1, 2, l, api.Result{Names: []string{"a", "b"}}, 2)
	for _, n := range []int{0, -1, math.MinInt} {
		page(1, n, l, api.Result{Err: api.EINVAL}, 2)
		page(7, n, l, api.Result{Err: api.EINVAL}, 2)
	}
	page(0, 1, l, api.Result{Err: api.EBADF}, 2)
	page(2, math.MaxInt, l, api.Result{Err: api.EBADF}, 2)
	page(1, 1, nil, api.Result{End: true}, 2)
	page(1, math.MaxInt, l[:2], api.Result{End: true}, 2)
	page(1, 1, l, api.Result{Names: []string{"c"}}, 3)
	page(1, 2, l, api.Result{Names: []string{"d", "e"}, End: true}, 5)
	page(1, math.MaxInt, l, api.Result{End: true}, 5)
	// More than were left counts for as many as there were.
	page(1, math.MaxInt, entries("a", "b", "c", "d", "e", "f", "g"), api.Result{Names: []string{"f", "g"}, End: true}, 7)
	s.Remove(0)
	page(1, 1, l, api.Result{Err: api.ESTALE}, 7)
	page(1, 0, l, api.Result{Err: api.EINVAL}, 7)
	page(2, 1, l, api.Result{Err: api.EBADF}, 7)
}

// plain is what the chapter says of a State, in lists.
type plain struct {
	stack       stack.Stack
	epoch, room int
	ever        int
	cursors     []open
}

// open is a Cursor with its number.
type open struct {
	id, epoch int
	dir       string
	at        int
}

func (p *plain) find(id int) int {
	return slices.IndexFunc(p.cursors, func(c open) bool { return c.id == id })
}

func (p *plain) do(op api.Op) api.Result {
	failed := func(e api.Errno) api.Result { return api.Result{Err: e} }
	switch {
	case op.Kind == api.Page && op.N < 1 || op.Kind == api.ReadAt && (op.Off < 0 || op.N < 0):
		return failed(api.EINVAL)
	case op.Kind == api.Open:
		dir, _, e := union.List(p.stack, op.Path)
		if e == api.OK && len(p.cursors) == p.room {
			e = api.EMFILE
		}
		if e != api.OK {
			return failed(e)
		}
		p.ever++
		p.cursors = append(p.cursors, open{p.ever, p.epoch, dir, 0})
		return api.Result{ID: p.ever}
	case op.Kind == api.Page || op.Kind == api.Close:
		i := p.find(op.ID)
		if i < 0 {
			return failed(api.EBADF)
		}
		if op.Kind == api.Close {
			p.cursors = slices.Delete(p.cursors, i, i+1)
			return api.Result{}
		}
		c := &p.cursors[i]
		if c.epoch != p.epoch {
			return failed(api.ESTALE)
		}
		_, l, _ := union.List(p.stack, c.dir)
		names := merge.Names(l)[c.at:]
		many := min(op.N, len(names))
		c.at += many
		return api.Result{Names: names[:many], End: many == len(names)}
	case op.Kind == api.Add:
		b, e := branch.Open(op.Image)
		if e != api.OK {
			return failed(api.EINVAL)
		}
		s, id, e := p.stack.Add(b)
		if e != api.OK {
			return failed(api.ENOSPC)
		}
		p.stack, p.epoch = s, p.epoch+1
		return api.Result{ID: id}
	case op.Kind == api.Remove:
		s, e := p.stack.Remove(op.ID)
		if e != api.OK {
			return failed(api.ENOENT)
		}
		p.stack, p.epoch = s, p.epoch+1
		return api.Result{}
	}
	return union.Do(p.stack, op)
}

// holds: a State has what the chapter says.
func (p *plain) holds(t *testing.T, s *State) {
	t.Helper()
	counted(t, s, p.stack.Len(), p.epoch, len(p.cursors), p.room)
	for k := range p.stack.Len() {
		if s.Stack.ID(k) != p.stack.ID(k) {
			t.Fatal("other branches")
		}
	}
	for id := -1; id < p.ever+2; id++ {
		if i := p.find(id); i >= 0 {
			c := p.cursors[i]
			has(t, s, id, cursor.Cursor{Epoch: c.epoch, Dir: c.dir, At: c.at})
		} else if c, e := s.Get(id); c != (cursor.Cursor{}) || e != api.EBADF {
			t.Error("Get:", id, c, e)
		}
	}
}

// TestPlain: P20.1: many calls, one behind the other, as the chapter says of each.
func TestPlain(t *testing.T) {
	images := []string{imageOf(t, some()), imageOf(t, many(7)), imageOf(t, tree.Dir([]string{"d", "f"}, tree.White(), tree.Dir([]string{"a"}, tree.Text("x")))), imageOf(t, tree.Opaque(tree.Dir([]string{"d", "l"}, many(9), tree.Link("d")))), "", "x"}
	paths := []string{"", "/", "d", "e", "f", "l", "m", "n", "d/a", "d/b", "l/c", "f/..", "x", "f0003", "l/f0003"}
	for seed := range uint32(8) {
		room := []int{1, 2, 5, 12}[seed%4]
		st := made(t, some())
		s, p := New(st, room), &plain{stack: st, room: room}
		pick := func(n int) int {
			seed = seed*1664525 + 1013904223
			return int(seed>>8) % n
		}
		met := map[[2]int]bool{}
		for i := range 3000 {
			op := api.Op{Kind: pick(12), Path: paths[pick(len(paths))], Off: pick(6) - 1, N: pick(7) - 1, Image: images[pick(len(images))], ID: p.ever + 1 - pick(room+2)}
			switch {
			case op.Kind == 11:
				op.Kind = api.Page
			case op.Kind == 10 || op.Kind == api.Close && pick(2) > 0:
				op.Kind = api.Open
			case op.Kind == api.Remove:
				op.ID = p.stack.ID(pick(p.stack.Len() + 1))
			case op.Kind == api.Add && pick(3) > 0:
				op.Kind = api.Page
			}
			r, want := s.Do(op), p.do(op)
			if !is(r, want) {
				t.Fatalf("Do of %.200v: %v, not %v", op, r, want)
			}
			met[[2]int{op.Kind, int(r.Err)}] = true
			if i%100 == 0 {
				p.holds(t, s)
			}
		}
		p.holds(t, s)
		for _, x := range [][2]int{{api.Open, 0}, {api.Open, int(api.ENOENT)}, {api.Open, int(api.EMFILE)}, {api.Page, 0}, {api.Page, int(api.EINVAL)}, {api.Page, int(api.ESTALE)}, {api.Page, int(api.EBADF)}, {api.Close, 0}, {api.Close, int(api.EBADF)}, {api.Add, 0}, {api.Add, int(api.EINVAL)}, {api.Remove, 0}, {api.Remove, int(api.ENOENT)}} {
			if !met[x] {
				t.Error("never met:", x)
			}
		}
	}
}

// TestRefused: P2: what is refused leaves the State as it was.
func TestRefused(t *testing.T) {
	st := made(t, slices.Repeat([]api.Node{some()}, 64)...)
	s := New(st, 1)
	opens(t, s, "d", 1)
	pages(t, s, 1, 1, false, "a")
	b := branchOf(t, many(2))
	for range 3 {
		for _, op := range []api.Op{{Kind: api.Open, Path: "x"}, {Kind: api.Open, Path: "/"}, {Kind: api.Page, ID: 1}, {Kind: api.Page, ID: 2, N: 1}, {Kind: api.Close, ID: 2}, {Kind: api.Add, Image: "x"}, {Kind: api.Add, Image: imageOf(t, many(2))}, {Kind: api.Remove, ID: 64}, {Kind: api.ReadAt, Path: "f", N: -1}, {Kind: api.Stat}, {Kind: 10}} {
			if r := s.Do(op); r.Err == api.OK || !is(r, api.Result{Err: r.Err}) {
				t.Errorf("Do of %.200v: %v", op, r)
			}
		}
		if r := s.Add(b); !is(r, api.Result{Err: api.ENOSPC}) {
			t.Error("Add:", r)
		}
		if r := s.Remove(-1); !is(r, api.Result{Err: api.ENOENT}) {
			t.Error("Remove:", r)
		}
		if r := s.Begin("/"); !is(r, api.Result{Err: api.EMFILE}) {
			t.Error("Begin:", r)
		}
		if r := s.Page(api.Op{Kind: api.Page, ID: 1}, []merge.Entry{{Name: "q"}}); !is(r, api.Result{Err: api.EINVAL}) {
			t.Error("Page:", r)
		}
		counted(t, s, 64, 0, 1, 1)
		has(t, s, 1, cursor.Cursor{Dir: "/d", At: 1})
		does(t, s, api.Op{Kind: api.Lookup, Path: "f"}, api.Result{Kind: api.File, Where: 63})
	}
	pages(t, s, 1, 9, true, "b", "c")
}

// TestHandedIn: P2: entries that are handed in are neither changed nor kept, and what is answered is new each time.
func TestHandedIn(t *testing.T) {
	l := append(make([]merge.Entry, 0, 6), merge.Entry{Name: "a", Kind: 1}, merge.Entry{Name: "b", Kind: 2}, merge.Entry{Name: "c", Kind: 3})
	all := slices.Clone(l[:6])
	s := New(made(t, some()), 2)
	opens(t, s, "d", 1)
	opens(t, s, "d", 2)
	r := s.Page(api.Op{Kind: api.Page, ID: 1, N: 2}, l)
	q := s.Page(api.Op{Kind: api.Page, ID: 2, N: 2}, l)
	clear(r.Names[:cap(r.Names)])
	if !slices.Equal(q.Names, []string{"a", "b"}) || !slices.Equal(l[:6], all) {
		t.Error("Names share memory:", q.Names, l[:6])
	}
	clear(l)
	pages(t, s, 1, 9, true, "c")
	s = New(made(t, some()), 2)
	opens(t, s, "d", 1)
	opens(t, s, "d", 2)
	r, q = s.Do(api.Op{Kind: api.Page, ID: 1, N: 2}), s.Do(api.Op{Kind: api.Page, ID: 2, N: 2})
	clear(r.Names[:cap(r.Names)])
	if !slices.Equal(q.Names, []string{"a", "b"}) {
		t.Error("Names share memory:", q.Names)
	}
	pages(t, s, 1, 9, true, "c")
}

// TestApart: P2: States that were made of one Stack have branches, epochs and cursors of their own, and that Stack stays as it is.
func TestApart(t *testing.T) {
	st := made(t, some(), many(2))
	a, b := New(st, 2), New(st, 3)
	opens(t, a, "d", 1)
	does(t, a, api.Op{Kind: api.Remove, ID: 0}, api.Result{})
	does(t, a, api.Op{Kind: api.Add, Image: imageOf(t, many(1))}, api.Result{ID: 2})
	counted(t, a, 2, 2, 1, 2)
	counted(t, b, 2, 0, 0, 3)
	does(t, b, api.Op{Kind: api.Lookup, Path: "d"}, api.Result{Kind: api.Dir})
	does(t, b, api.Op{Kind: api.Add, Image: imageOf(t, tree.Dir([]string{"d"}, tree.White()))}, api.Result{ID: 2})
	fails(t, a, api.Op{Kind: api.Lookup, Path: "d"}, api.ENOENT)
	fails(t, b, api.Op{Kind: api.Page, ID: 1, N: 1}, api.EBADF)
	does(t, a, api.Op{Kind: api.Lookup, Path: "f0000"}, api.Result{Kind: api.File, Where: 2})
	does(t, b, api.Op{Kind: api.Lookup, Path: "f0000"}, api.Result{Kind: api.File, Where: 1})
	if st.Len() != 2 || st.ID(0) != 1 || st.ID(1) != 0 {
		t.Error("the Stack is another one")
	}
}

// TestAllArguments: P1: all calls end, and none panics, whatever they are given.
func TestAllArguments(t *testing.T) {
	numbers := []int{math.MinInt, -1 << 32, -1, 0, 1, 2, 1 << 32, math.MaxInt}
	texts := []string{"", "/", "d", "n", "\x00", "\xff", "..", strings.Repeat("a/", 1<<12), imageOf(t, some())}
	for _, st := range []stack.Stack{{}, made(t, some(), some())} {
		for _, cursors := range numbers {
			s := New(st, cursors)
			for _, kind := range []int{math.MinInt, -1, 0, 1, 2, 3, 4, 5, 6, 7, 8, 9, 10, math.MaxInt} {
				for _, text := range texts {
					for _, n := range numbers {
						op := api.Op{Kind: kind, Path: text, Off: n, N: n, ID: n, Image: text}
						s.Do(op)
						s.Do(api.Op{Kind: kind, Path: text, N: 1, ID: n, Image: text})
						s.Page(op, nil)
						s.Page(op, []merge.Entry{{Name: text, Kind: n}, {}})
					}
				}
			}
			for _, n := range numbers {
				s.Stale(n)
				s.Add(branchOf(t, many(2)))
				s.Remove(n)
				for _, text := range texts {
					s.Begin(text)
					s.Do(api.Op{Kind: api.Page, ID: s.Len(), N: 3})
				}
				s.Epoch = n
				s.Do(api.Op{Kind: api.Open, Path: "/"})
				s.Do(api.Op{Kind: api.Page, ID: s.Len(), N: 3})
			}
		}
	}
}
