package task

import (
	"math"
	"reflect"
	"slices"
	"strconv"
	"strings"
	"testing"

	"socage/api"
	"socage/cursor"
	"socage/image"
	"socage/server"
	"socage/spec"
	"socage/stack"
	"socage/tree"
)

// last is the greatest number of somebody of which something is promised.
const last = math.MaxInt32

// made: the Stack of trees, the uppermost one last.
func made(t *testing.T, trees ...api.Node) stack.Stack {
	t.Helper()
	s, e := stack.Of(trees...)
	if e != api.OK {
		t.Fatal(e)
	}
	return s
}

// imageOf: a tree as bytes.
func imageOf(t *testing.T, n api.Node) string {
	t.Helper()
	s, e := image.Encode(n)
	if e != api.OK {
		t.Fatal(e)
	}
	return s
}

// lower: a tree with directories, files and links.
func lower() api.Node {
	return tree.Dir([]string{"d", "e", "f", "l", "m", "n"}, tree.Dir([]string{"a", "b", "c"}, tree.Text("1"), tree.Link("../e/x"), tree.Dir(nil)), tree.Dir(nil), tree.Text("hello"), tree.Link("d"), tree.Link("/d/../f"), tree.Link("n"))
}

// upper: what hides some of that, and has some more.
func upper() api.Node {
	return tree.Dir([]string{"d", "e", "f"}, tree.Dir([]string{"a", "z"}, tree.White(), tree.Text("22")), tree.Opaque(tree.Dir([]string{"x"}, tree.Text("333"))), tree.White())
}

// is: two Results are the same; a list without items may be nil or not.
func is(a, b api.Result) bool {
	names := slices.Equal(a.Names, b.Names)
	a.Names, b.Names = nil, nil
	return names && reflect.DeepEqual(a, b)
}

// serve: a Server with one shard of each kind, of one tree.
func serve(t *testing.T, cursors int) *server.Server {
	t.Helper()
	return server.New(made(t, lower()), server.Config{Shards: 1, Room: 9, Cursors: cursors})
}

// state: who is in at the gate (r, w, or nobody), how many locks are held, and whether a Task counts already (m), and has ended (e).
func state(s *server.Server, x *Task) string {
	w := "-"
	switch {
	case s.Readers() > 0:
		w = "r"
	case s.Writers() > 0:
		w = "w"
	}
	w += strconv.Itoa(s.Held())
	if x.Marked() {
		w += "m"
	}
	if x.Done() {
		w += "e"
	}
	return w
}

// goes: a Task's steps, each of which is done, lead through these states; there is nothing to be read of what it answers till the last one.
func goes(t *testing.T, s *server.Server, x *Task, states string) {
	t.Helper()
	for i, want := range strings.Fields(states) {
		if !is(x.Result(), api.Result{}) {
			t.Errorf("step %d: it answers already: %v", i+1, x.Result())
		}
		if !x.Step() {
			t.Errorf("step %d can't be done", i+1)
		}
		if got := state(s, x); got != want {
			t.Errorf("step %d: %s, not %s", i+1, got, want)
		}
	}
}

// stuck: a Task's next step can't be done now, and whoever asks for it changes nothing.
func stuck(t *testing.T, s *server.Server, x *Task) {
	t.Helper()
	was := state(s, x)
	for range 2 {
		if x.Step() || state(s, x) != was {
			t.Errorf("it goes on, from %s to %s", was, state(s, x))
		}
	}
}

// ends: a Task has ended, with that, and stays so.
func ends(t *testing.T, s *server.Server, x *Task, want api.Result) {
	t.Helper()
	for range 2 {
		if !x.Done() || !x.Marked() || x.Step() {
			t.Error("it hasn't ended")
		}
		if r := x.Result(); !is(r, want) {
			t.Errorf("it answers %v, not %v", r, want)
		}
	}
}

// plays: a Task goes through these states, and ends with that.
func plays(t *testing.T, s *server.Server, op api.Op, states string, want api.Result) {
	t.Helper()
	x := New(s, op, 3)
	goes(t, s, x, states)
	ends(t, s, x, want)
	if s.In(3) || s.Held() != 0 {
		t.Errorf("%v has something still: %d locks", op.Kind, s.Held())
	}
}

// does: all steps of a Task, one behind the other, end with that.
func does(t *testing.T, s *server.Server, op api.Op, want api.Result) {
	t.Helper()
	x := New(s, op, 4)
	for x.Step() {
	}
	ends(t, s, x, want)
}

// TestExamples: P22.2: the chapter's example, written out.
func TestExamples(t *testing.T) {
	x := New(serve(t, 1), api.Op{Kind: api.Close, ID: 1}, 0)
	if !x.Step() || !x.Done() || x.Step() {
		t.Error("a Close isn't one step")
	}
}

// TestNew: P22.1: it hasn't begun, and nothing is done yet.
func TestNew(t *testing.T) {
	s := serve(t, 1)
	for kind := -1; kind < 12; kind++ {
		for _, id := range []int{0, 1, last} {
			x := New(s, api.Op{Kind: kind, Path: "d"}, id)
			if x.Done() || x.Marked() || !is(x.Result(), api.Result{}) || state(s, x) != "-0" || s.Waiting() != 0 || s.Epoch != 0 || s.Len() != 0 {
				t.Error("it has begun:", kind)
			}
		}
	}
}

// TestBegin: P22.2 (1): what can't be asked, whatever is at the gate, is answered in one step; also a Close, and an Add of no image.
func TestBegin(t *testing.T) {
	small := imageOf(t, lower())
	s := serve(t, 3)
	s.Begin("/")
	s.Begin("/d")
	for range 2 {
		for _, op := range []api.Op{{}, {Kind: -1}, {Kind: 10}, {Kind: math.MinInt}, {Kind: math.MaxInt}, {Kind: 1<<32 + 1}, {Kind: api.ReadAt, Path: "f", Off: -1}, {Kind: api.ReadAt, Path: "f", N: -1}, {Kind: api.ReadAt, Off: math.MinInt}, {Kind: api.Page, ID: 1}, {Kind: api.Page, ID: 9, N: -1}, {Kind: api.Add}, {Kind: api.Add, Image: "x"}, {Kind: api.Add, Image: small + "x"}, {Kind: api.Add, Image: small[1:]}} {
			x := New(s, op, 3)
			if !x.Step() || s.Waiting() != 0 {
				t.Error("Step", op.Kind)
			}
			ends(t, s, x, api.Result{Err: api.EINVAL})
		}
		x := New(s, api.Op{Kind: api.Close, ID: s.Len()}, 3)
		if !x.Step() {
			t.Error("Step of a Close")
		}
		ends(t, s, x, api.Result{})
		if x := New(s, api.Op{Kind: api.Close, ID: 9}, 3); !x.Step() || x.Result().Err != api.EBADF {
			t.Error("Close of none", x.Result())
		}
		// The second time somebody is in at the gate.
		s.Write(9)
	}
	if s.Len() != 0 || s.Epoch != 0 || s.Held() != 0 || s.Stack.Len() != 1 {
		t.Error("something was done")
	}
}

// TestPaths: P22.2: the steps of Lookup, Stat, Readlink and ReadAt: five, two a name, and one.
func TestPaths(t *testing.T) {
	const head = "-0 r0 r0m -0m "
	for _, x := range []struct {
		op     api.Op
		states string
		want   api.Result
	}{
		{api.Op{Kind: api.Lookup, Path: "/"}, "-0m -0me", api.Result{Kind: api.Dir}},
		{api.Op{Kind: api.Stat, Path: "../.././/"}, "-0m -0me", api.Result{Kind: api.Dir}},
		{api.Op{Kind: api.Readlink, Path: ".."}, "-0m -0me", api.Result{Err: api.EINVAL}},
		{api.Op{Kind: api.ReadAt, Path: "/", N: 9}, "-0m -0me", api.Result{Err: api.EISDIR}},
		{api.Op{Kind: api.Lookup}, "-0me", api.Result{Err: api.EINVAL}},
		{api.Op{Kind: api.Stat, Path: "a\x00"}, "-0me", api.Result{Err: api.EINVAL}},
		{api.Op{Kind: api.Readlink, Path: strings.Repeat("a", 65)}, "-0me", api.Result{Err: api.EINVAL}},
		{api.Op{Kind: api.ReadAt, Path: strings.Repeat("/", 1025)}, "-0me", api.Result{Err: api.EINVAL}},
		{api.Op{Kind: api.Lookup, Path: "f"}, "-0m -1m -0m -0me", api.Result{Kind: api.File}},
		{api.Op{Kind: api.Lookup, Path: "l"}, "-0m -1m -0m -0me", api.Result{Kind: api.Link}},
		{api.Op{Kind: api.Stat, Path: "l"}, "-0m -1m -0m -1m -0m -0me", api.Result{Kind: api.Dir}},
		{api.Op{Kind: api.Stat, Path: "m"}, "-0m -1m -0m -1m -0m -1m -0m -0me", api.Result{Kind: api.File, Size: 5}},
		{api.Op{Kind: api.Readlink, Path: "m"}, "-0m -1m -0m -0me", api.Result{Text: "/d/../f"}},
		{api.Op{Kind: api.ReadAt, Path: "m", Off: 1, N: 3}, "-0m -1m -0m -1m -0m -1m -0m -0me", api.Result{Text: "ell"}},
		{api.Op{Kind: api.ReadAt, Path: "f", Off: 5, N: math.MaxInt}, "-0m -1m -0m -0me", api.Result{}},
		{api.Op{Kind: api.Lookup, Path: "l/a"}, "-0m -1m -0m -1m -0m -1m -0m -0me", api.Result{Kind: api.File}},
		{api.Op{Kind: api.Lookup, Path: "d/../d/.."}, "-0m -1m -0m -1m -0m -0me", api.Result{Kind: api.Dir}},
		{api.Op{Kind: api.Stat, Path: "x"}, "-0m -1m -0me", api.Result{Err: api.ENOENT}},
		{api.Op{Kind: api.Stat, Path: "x/y/z"}, "-0m -1m -0me", api.Result{Err: api.ENOENT}},
		{api.Op{Kind: api.Stat, Path: "d/b"}, "-0m -1m -0m -1m -0m -1m -0m -1m -0me", api.Result{Err: api.ENOENT}},
		{api.Op{Kind: api.Readlink, Path: "f/.."}, "-0m -1m -0me", api.Result{Err: api.ENOTDIR}},
		{api.Op{Kind: api.ReadAt, Path: "d/c", N: 1}, "-0m -1m -0m -1m -0m -0me", api.Result{Err: api.EISDIR}},
		{api.Op{Kind: api.Lookup, Path: "n"}, "-0m -1m -0m -0me", api.Result{Kind: api.Link}},
		{api.Op{Kind: api.Stat, Path: "n"}, "-0m " + strings.Repeat("-1m -0m ", 40) + "-1m -0me", api.Result{Err: api.ELOOP}},
		{api.Op{Kind: api.Lookup, Path: "n/x"}, "-0m " + strings.Repeat("-1m -0m ", 40) + "-1m -0me", api.Result{Err: api.ELOOP}},
	} {
		s := serve(t, 1)
		// What is remembered makes the steps no other ones.
		for range 2 {
			plays(t, s, x.op, head+x.states, x.want)
		}
	}
}

// TestOpens: P22.2: the steps of Open, which is behind the gate till its last one.
func TestOpens(t *testing.T) {
	const head = "-0 r0 r0 "
	for _, x := range []struct{ path, states, dir string }{
		{"/", "r0 r0m -0me", "/"},
		{"d", "r0 r1 r0 r0m -0me", "/d"},
		{"l/c/..", "r0 r1 r0 r1 r0 r1 r0 r0m -0me", "/d"},
		{"l", "r0 r1 r0 r1 r0 r0m -0me", "/d"},
	} {
		s := serve(t, 2)
		for id := range 2 {
			plays(t, s, api.Op{Kind: api.Open, Path: x.path, ID: 7}, head+x.states, api.Result{ID: id + 1})
			if c, e := s.Get(id + 1); c != (cursor.Cursor{Dir: x.dir}) || e != api.OK {
				t.Error("another Cursor:", c, e)
			}
		}
		plays(t, s, api.Op{Kind: api.Open, Path: x.path}, head+x.states, api.Result{Err: api.EMFILE})
	}
	s := serve(t, 2)
	for _, x := range []struct {
		path, states string
		e            api.Errno
	}{
		{"", "r0m -0me", api.EINVAL},
		{"a\xff\x00", "r0m -0me", api.EINVAL},
		{"x", "r0 r1 r0m -0me", api.ENOENT},
		{"d/x/y", "r0 r1 r0 r1 r0m -0me", api.ENOENT},
		{"f/..", "r0 r1 r0m -0me", api.ENOTDIR},
		{"f", "r0 r1 r0 r0m -0me", api.ENOTDIR},
		{"m", "r0 r1 r0 r1 r0 r1 r0 r0m -0me", api.ENOTDIR},
		{"n", "r0 " + strings.Repeat("r1 r0 ", 40) + "r1 r0m -0me", api.ELOOP},
	} {
		plays(t, s, api.Op{Kind: api.Open, Path: x.path}, head+x.states, api.Result{Err: x.e})
	}
	if s.Len() != 0 {
		t.Error("cursors:", s.Len())
	}
}

// TestPages: P22.2: the steps of Page: seven, or four where there is no such cursor, or it is stale.
func TestPages(t *testing.T) {
	const all, none = "-0 r0 r0 r1 r0 r0m -0me", "-0 r0 r0m -0me"
	s := serve(t, 9)
	plays(t, s, api.Op{Kind: api.Page, ID: 1, N: 1}, none, api.Result{Err: api.EBADF})
	s.Begin("/d")
	s.Begin("/e")
	plays(t, s, api.Op{Kind: api.Page, ID: 2, N: 1}, all, api.Result{End: true})
	plays(t, s, api.Op{Kind: api.Page, ID: 1, N: 2}, all, api.Result{Names: []string{"a", "b"}})
	plays(t, s, api.Op{Kind: api.Page, ID: 1, N: math.MaxInt}, all, api.Result{Names: []string{"c"}, End: true})
	plays(t, s, api.Op{Kind: api.Page, ID: 1, N: 1}, all, api.Result{End: true})
	if _, _, lists := s.Hits(); lists != 2 {
		t.Error("lists were made:", lists)
	}
	plays(t, s, api.Op{Kind: api.Page, ID: 3, N: 1}, none, api.Result{Err: api.EBADF})
	s.Remove(0)
	plays(t, s, api.Op{Kind: api.Page, ID: 2, N: 1}, none, api.Result{Err: api.ESTALE})
	plays(t, s, api.Op{Kind: api.Page, ID: 0, N: 1}, none, api.Result{Err: api.EBADF})
}

// TestWrites: P22.2: the steps of Add and Remove: four, whether there is something to be done or not.
func TestWrites(t *testing.T) {
	const all = "-0 w0 w0m -0me"
	s := serve(t, 1)
	small := imageOf(t, upper())
	for i := 1; i < 64; i++ {
		plays(t, s, api.Op{Kind: api.Add, Image: small}, all, api.Result{ID: i})
		if s.Epoch != i || s.Stack.Len() != i+1 || s.Stack.ID(0) != i {
			t.Error("Add", s.Epoch, s.Stack.Len())
		}
	}
	plays(t, s, api.Op{Kind: api.Add, Image: small}, all, api.Result{Err: api.ENOSPC})
	plays(t, s, api.Op{Kind: api.Add, Image: small[1:]}, "-0me", api.Result{Err: api.EINVAL})
	for _, id := range []int{math.MinInt, -1, 64, math.MaxInt} {
		plays(t, s, api.Op{Kind: api.Remove, ID: id}, all, api.Result{Err: api.ENOENT})
	}
	plays(t, s, api.Op{Kind: api.Remove, ID: 5}, all, api.Result{})
	plays(t, s, api.Op{Kind: api.Remove, ID: 5}, all, api.Result{Err: api.ENOENT})
	plays(t, s, api.Op{Kind: api.Add, Image: small}, all, api.Result{ID: 64})
	if s.Epoch != 65 || s.Stack.Len() != 64 {
		t.Error("Epoch, Len:", s.Epoch, s.Stack.Len())
	}
}

// TestGate: P22.2 (2): those who read wait for one who writes, or waits to, and don't wait at the gate; those who write wait there for all, in their order.
func TestGate(t *testing.T) {
	reads := []api.Op{{Kind: api.Lookup, Path: "d"}, {Kind: api.Stat, Path: "f"}, {Kind: api.Readlink, Path: "l"}, {Kind: api.ReadAt, Path: "f", N: 1}, {Kind: api.Open, Path: "d"}, {Kind: api.Page, N: 1}}
	writes := []api.Op{{Kind: api.Add, Image: imageOf(t, upper())}, {Kind: api.Remove, ID: 7}}
	for _, op := range reads {
		s := serve(t, 1)
		x := New(s, op, 1)
		x.Step()
		s.Write(9)
		stuck(t, s, x)
		s.Leave(9)
		s.Read(8)
		s.Write(9)
		stuck(t, s, x)
		if s.Waiting() != 1 || s.In(1) {
			t.Error("who reads waits at the gate")
		}
		s.Leave(8)
		stuck(t, s, x)
		s.Write(9)
		s.Leave(9)
		s.Read(8)
		if !x.Step() || !s.In(1) || s.Readers() != 2 {
			t.Error("who reads isn't let in beside others")
		}
	}
	for _, op := range writes {
		s := serve(t, 1)
		x, y := New(s, op, 1), New(s, op, 0)
		x.Step()
		y.Step()
		if s.Waiting() != 0 {
			t.Error("who has begun waits already")
		}
		s.Read(9)
		stuck(t, s, x)
		if s.Waiting() != 1 || s.Read(8) {
			t.Error("who wants to write doesn't wait")
		}
		stuck(t, s, y)
		s.Leave(9)
		stuck(t, s, y)
		if s.Waiting() != 2 || !x.Step() || !s.In(1) || s.Waiting() != 1 {
			t.Error("who waited first isn't let in")
		}
		stuck(t, s, y)
		x.Step()
		stuck(t, s, y)
		x.Step()
		if !y.Step() || !s.In(0) || s.Waiting() != 0 || s.Writers() != 1 {
			t.Error("who waited next isn't let in")
		}
	}
}

// TestNameLocks: P22.2 (6): each name's lock is taken, that of its own shard, of the directory where it is; while somebody holds it, the step can't be done.
func TestNameLocks(t *testing.T) {
	s := server.New(made(t, lower()), server.Config{Shards: 256, Room: 9, Cursors: 1})
	for id, op := range []api.Op{{Kind: api.Stat, Path: "l/../m"}, {Kind: api.Open, Path: "l/../m"}} {
		x := New(s, op, id)
		for range 4 {
			x.Step()
		}
		if op.Kind == api.Stat {
			x.Step()
		}
		for _, at := range []struct{ dir, n string }{{"/", "l"}, {"/", "d"}, {"/", "m"}, {"/", "d"}, {"/", "f"}} {
			l := s.NameLock(at.dir, at.n)
			s.Take(l, 9)
			stuck(t, s, x)
			if s.Give(l, 9); !x.Step() || s.Held() != 1 || s.Take(l, 9) || !s.Give(l, id) {
				t.Fatal("another lock is taken", at)
			}
			// Who has the lock goes on, whoever has others.
			s.Take(l, id)
			s.Take(s.ListLock(at.dir), 9)
			if !x.Step() || s.Held() != 1 || !s.Give(s.ListLock(at.dir), 9) {
				t.Fatal("the lock isn't given back", at)
			}
		}
	}
	x := New(s, api.Op{Kind: api.Lookup, Path: "d/cab"}, 2)
	for range 8 {
		x.Step()
	}
	if s.Take(s.NameLock("/d", "cab"), 9) || !s.Take(s.NameLock("/", "cab"), 9) || !s.Take(s.NameLock("/d", "c"), 9) {
		t.Error("another lock is taken")
	}
}

// TestListLock: P22.2 (4): a Page's lock is that of its cursor's directory; while somebody holds it, the step can't be done.
func TestListLock(t *testing.T) {
	s := server.New(made(t, lower()), server.Config{Shards: 256, Room: 9, Cursors: 1})
	s.Begin("/d")
	x := New(s, api.Op{Kind: api.Page, ID: 1, N: 9}, 0)
	for range 3 {
		x.Step()
	}
	l := s.ListLock("/d")
	s.Take(l, 9)
	stuck(t, s, x)
	if s.Give(l, 9); !x.Step() || s.Held() != 1 || s.Take(l, 9) {
		t.Error("another lock is taken")
	}
	if _, _, lists := s.Hits(); lists != 0 {
		t.Error("the list was made already")
	}
	if !x.Step() || s.Held() != 0 {
		t.Error("the lock isn't given back")
	}
	if _, _, lists := s.Hits(); lists != 1 {
		t.Error("the list isn't made")
	}
	goes(t, s, x, "r0m -0me")
	ends(t, s, x, api.Result{Names: []string{"a", "b", "c"}, End: true})
}

// TestRemembered: P22.2 (6): names are seen by the Server's See, of the Stack and the Epoch that were there when the call counted.
func TestRemembered(t *testing.T) {
	s := serve(t, 1)
	hits := func(h, m int) {
		t.Helper()
		if i, j, _ := s.Hits(); i != h || j != m {
			t.Errorf("Hits: %d, %d, not %d, %d", i, j, h, m)
		}
	}
	stat := api.Op{Kind: api.Stat, Path: "m"}
	file := api.Result{Kind: api.File, Size: 5}
	does(t, s, stat, file)
	hits(0, 3)
	does(t, s, stat, file)
	hits(3, 3)
	x := New(s, stat, 1)
	goes(t, s, x, "-0 r0 r0m -0m -0m -1m -0m")
	hits(4, 3)
	does(t, s, api.Op{Kind: api.Add, Image: imageOf(t, upper())}, api.Result{ID: 1})
	// What has counted goes along the elder branches; what is of their epoch is remembered still.
	goes(t, s, x, "-1m -0m")
	hits(5, 3)
	// What is of the later one is remembered from then on.
	does(t, s, stat, api.Result{Err: api.ENOENT})
	hits(5, 6)
	goes(t, s, x, "-1m -0m -0me")
	ends(t, s, x, file)
	hits(5, 7)
	does(t, s, stat, api.Result{Err: api.ENOENT})
	hits(8, 7)
}

// TestHeld: P22.2 (3), P22.3: the branches that were there when it counted are those that are asked, what was added and removed since is of no matter.
func TestHeld(t *testing.T) {
	add := api.Op{Kind: api.Add, Image: imageOf(t, upper())}
	for _, y := range []struct {
		op          api.Op
		early, late api.Result
	}{
		{api.Op{Kind: api.Lookup, Path: "e"}, api.Result{Kind: api.Dir, Where: 0}, api.Result{Kind: api.Dir, Where: 1}},
		{api.Op{Kind: api.Stat, Path: "f"}, api.Result{Kind: api.File, Size: 5}, api.Result{Err: api.ENOENT}},
		{api.Op{Kind: api.Readlink, Path: "d/b"}, api.Result{Text: "../e/x"}, api.Result{Err: api.ENOENT}},
		{api.Op{Kind: api.ReadAt, Path: "d/b", N: 9}, api.Result{Err: api.ENOENT}, api.Result{Err: api.ENOENT}},
		{api.Op{Kind: api.ReadAt, Path: "d/a", N: 9}, api.Result{Text: "1"}, api.Result{Err: api.ENOENT}},
		{api.Op{Kind: api.Stat, Path: "d/z"}, api.Result{Err: api.ENOENT}, api.Result{Err: api.ENOENT}},
		{api.Op{Kind: api.Lookup, Path: "/"}, api.Result{Kind: api.Dir}, api.Result{Kind: api.Dir, Where: -1}},
	} {
		// Ahead of the step at which it counts it is asked of what comes; behind it, of what was.
		for before := range 12 {
			s := serve(t, 1)
			x := New(s, y.op, 1)
			for range before {
				x.Step()
			}
			early := x.Marked()
			s.Do(add)
			s.Do(api.Op{Kind: api.Remove, ID: 0})
			if !early && y.late.Where < 0 {
				s.Do(api.Op{Kind: api.Remove, ID: 1})
			}
			for x.Step() {
			}
			want := y.late
			if early {
				want = y.early
			}
			if early != (before >= 3) {
				t.Error("it counts at another step")
			}
			if !early && y.op.Path == "d/z" {
				want = api.Result{Kind: api.File, Size: 2}
			}
			ends(t, s, x, want)
		}
	}
}

// TestBetween: P22.2, P22.3: what others do between a call's steps, ahead of that at which it counts, is to be seen by it.
func TestBetween(t *testing.T) {
	page := func(s *server.Server, steps int) *Task {
		x := New(s, api.Op{Kind: api.Page, ID: 1, N: 1}, 1)
		for range steps {
			x.Step()
		}
		return x
	}
	// A Close needs no gate: a Page whose cursor is closed meanwhile has none.
	for steps := 3; steps < 7; steps++ {
		s := serve(t, 2)
		s.Begin("/d")
		x := page(s, steps)
		does(t, s, api.Op{Kind: api.Close, ID: 1}, api.Result{})
		for x.Step() {
		}
		if steps < 6 {
			ends(t, s, x, api.Result{Err: api.EBADF})
		} else {
			ends(t, s, x, api.Result{Names: []string{"a"}})
		}
		if s.Held() != 0 || s.Readers() != 0 {
			t.Error("something is held")
		}
	}
	// Another Page reads on.
	for steps := 3; steps < 7; steps++ {
		s := serve(t, 2)
		s.Begin("/d")
		x := page(s, steps)
		if state(s, x) == "r1" {
			continue
		}
		y, want := New(s, api.Op{Kind: api.Page, ID: 1, N: 2}, 2), []string{"c"}
		for y.Step() {
		}
		for x.Step() {
		}
		if steps == 6 {
			want = []string{"a"}
		}
		ends(t, s, x, api.Result{Names: want, End: steps < 6})
	}
	// Room for a cursor is needed when it counts.
	open := api.Op{Kind: api.Open, Path: "d"}
	s := serve(t, 1)
	x, y := New(s, open, 1), New(s, open, 2)
	goes(t, s, x, "-0 r0 r0 r0 r1 r0")
	goes(t, s, y, "r0 r0 r0 r0 r1 r0 r0m")
	goes(t, s, x, "r0m r0me")
	ends(t, s, x, api.Result{Err: api.EMFILE})
	goes(t, s, y, "-0me")
	x = New(s, open, 1)
	goes(t, s, x, "-0 r0 r0 r0 r1 r0")
	does(t, s, api.Op{Kind: api.Close, ID: 1}, api.Result{})
	goes(t, s, x, "r0m -0me")
	ends(t, s, x, api.Result{ID: 2})
	// Of those who write, each finds what the one ahead has left.
	w, v := New(s, api.Op{Kind: api.Remove}, 1), New(s, api.Op{Kind: api.Remove}, 2)
	w.Step()
	v.Step()
	for w.Step() {
	}
	goes(t, s, v, "w0 w0m -0me")
	ends(t, s, w, api.Result{})
	ends(t, s, v, api.Result{Err: api.ENOENT})
}

// TestTaken: P22.2 (3), (6), (7): a Page reads on in the list that it has taken, an Open begins where its own branches have led to, even if somebody puts others into the State by hand.
func TestTaken(t *testing.T) {
	s := serve(t, 2)
	s.Begin("/d")
	x, y := New(s, api.Op{Kind: api.Page, ID: 1, N: 2}, 1), New(s, api.Op{Kind: api.Open, Path: "l/c"}, 2)
	goes(t, s, x, "-0 r0 r0 r1 r0")
	goes(t, s, y, "r0 r0 r0 r0 r1 r0 r1 r0")
	s.Stack = stack.Stack{}
	goes(t, s, y, "r1 r0 r0m r0me")
	goes(t, s, x, "r0m -0me")
	ends(t, s, x, api.Result{Names: []string{"a", "b"}})
	ends(t, s, y, api.Result{ID: 2})
	if c, e := s.Get(2); c.Dir != "/d/c" || e != api.OK {
		t.Error("another Cursor:", c, e)
	}
}

// party is clients whose calls go on as they are picked, and what they are promised.
type party struct {
	s    *server.Server
	p    *spec.State
	now  []*Task
	ops  []api.Op
	want []api.Result
}

// step: the next step of one of them is held against what is promised.
func (g *party) step(t *testing.T, i int) bool {
	t.Helper()
	x := g.now[i]
	marked, held, mine := x.Marked(), g.s.Held(), g.holds(i)
	ok := x.Step()
	if !ok && (x.Marked() != marked || g.s.Held() != held || mine && !x.Done()) {
		t.Fatal("who can't go on has done something, or holds a lock", g.ops[i])
	}
	if x.Marked() && !marked {
		g.want[i] = g.p.Do(g.ops[i])
	}
	if x.Done() && (!x.Marked() || !is(x.Result(), g.want[i])) {
		t.Fatalf("%.100v answers %v, not %v", g.ops[i], x.Result(), g.want[i])
	}
	if g.p.Epoch != g.s.Epoch || g.p.Len() != g.s.Len() {
		t.Fatal("Epoch, Len:", g.s.Epoch, g.s.Len(), "not", g.p.Epoch, g.p.Len())
	}
	return ok
}

// holds: whether one of them holds a lock.
func (g *party) holds(i int) bool {
	for k := range 2 * 3 {
		l := server.Lock{Lists: k%2 == 1, Shard: k / 2}
		if g.s.Give(l, i) {
			return g.s.Take(l, i)
		}
	}
	return false
}

// idle: all have ended, and nothing is held.
func (g *party) idle(t *testing.T) {
	t.Helper()
	if g.s.Held() != 0 || g.s.Readers() != 0 || g.s.Writers() != 0 || g.s.Waiting() != 0 {
		t.Fatal("something is held:", g.s.Held(), g.s.Readers(), g.s.Writers(), g.s.Waiting())
	}
}

// begin: such a party of so many, none of whom has asked for anything.
func begin(t *testing.T, many int, c server.Config) *party {
	st := made(t, lower())
	return &party{s: server.New(st, c), p: spec.New(st, c.Cursors), now: make([]*Task, many), ops: make([]api.Op, many), want: make([]api.Result, many)}
}

// ask: one of them asks for something.
func (g *party) ask(i int, op api.Op) {
	g.ops[i], g.now[i] = op, New(g.s, op, i)
}

// some: what may be asked for.
func some(t *testing.T) []api.Op {
	var ops []api.Op
	for _, path := range []string{"", "/", "d", "l/a", "m", "d/b", "n", "e/x", "x/y", "l/c/../..", "d/z"} {
		for _, kind := range []int{api.Lookup, api.Stat, api.Readlink, api.ReadAt, api.Open} {
			ops = append(ops, api.Op{Kind: kind, Path: path, Off: len(path) % 2, N: 3})
		}
	}
	for id := range 12 {
		ops = append(ops, api.Op{Kind: api.Page, ID: id, N: 1 + id%3}, api.Op{Kind: api.Page, ID: id, N: 1}, api.Op{Kind: api.Close, ID: id}, api.Op{Kind: api.Remove, ID: id})
	}
	add := imageOf(t, upper())
	for i := range 16 {
		ops = append(ops, api.Op{Kind: api.Add, Image: add[:len(add)-i%8/7]}, api.Op{Kind: api.Open, Path: "d"})
	}
	return append(ops, api.Op{}, api.Op{Kind: 10}, api.Op{Kind: api.Page, ID: 1}, api.Op{Kind: api.ReadAt, Path: "f", Off: -1})
}

// TestPicked: P22.3: many clients' calls, as they are picked, whatever room there is to remember: each answers what Do would have at the step at which it counts; nobody who holds a lock waits, and never do all.
func TestPicked(t *testing.T) {
	ops := some(t)
	for seed, c := range []struct{ shards, room, cursors int }{{1, 1, 1}, {1, 2, 4}, {2, 1, 2}, {3, 100, 9}, {2, 3, 1024}} {
		x := uint32(seed + 1)
		next := func(n int) int {
			x = x*1664525 + 1013904223
			return int(x>>8) % n
		}
		for _, many := range []int{1, 2, 5, 12} {
			g := begin(t, many, server.Config{Shards: c.shards, Room: c.room, Cursors: c.cursors})
			for i := range many {
				g.ask(i, ops[next(len(ops))])
			}
			for range 4000 {
				i := next(many)
				if g.step(t, i); g.now[i].Done() {
					g.ask(i, ops[next(len(ops))])
				}
			}
			g.finish(t)
		}
	}
}

// finish: all go on till they have ended.
func (g *party) finish(t *testing.T) {
	t.Helper()
	for busy := true; busy; {
		busy = false
		for i := range g.now {
			busy = g.step(t, i) || busy
		}
	}
	if slices.ContainsFunc(g.now, func(x *Task) bool { return !x.Done() }) {
		t.Fatal("nobody can go on")
	}
	g.idle(t)
}

// TestAllRows: P22.3: of two calls, all rows in which their steps can be picked.
func TestAllRows(t *testing.T) {
	add := api.Op{Kind: api.Add, Image: imageOf(t, upper())}
	open, page, stop := api.Op{Kind: api.Open, Path: "d"}, api.Op{Kind: api.Page, ID: 1, N: 2}, api.Op{Kind: api.Close, ID: 1}
	stat, remove := api.Op{Kind: api.Stat, Path: "f"}, api.Op{Kind: api.Remove}
	for _, pair := range [][]api.Op{{add, page}, {add, stat}, {remove, stat}, {remove, page}, {page, page}, {page, stop}, {open, stop}, {open, page}, {add, remove}, {stat, stat}, {open, add}, {open, open}, {stat, open}} {
		rows(t, pair, 2, nil)
	}
	rows(t, []api.Op{open, stop}, 1, nil)
}

// rows: the calls are picked as a row says, and from there on in all ways in which it can go on.
func rows(t *testing.T, ops []api.Op, cursors int, row []int) {
	t.Helper()
	g := begin(t, len(ops), server.Config{Shards: 1, Room: 1, Cursors: cursors})
	g.s.Begin("/d")
	g.p.Begin("/d")
	for i, op := range ops {
		g.ask(i, op)
	}
	// Who couldn't go on can't till somebody else has.
	stuck := -1
	for _, i := range row {
		if stuck = -1; !g.step(t, i) {
			stuck = i
		}
	}
	if len(row) > 40 {
		t.Fatal("nobody can go on", row)
	}
	on := false
	for i, x := range g.now {
		if !x.Done() && i != stuck {
			on = true
			rows(t, ops, cursors, append(slices.Clone(row), i))
		}
	}
	if !on {
		if slices.ContainsFunc(g.now, func(x *Task) bool { return !x.Done() }) {
			t.Fatal("nobody can go on", row)
		}
		g.idle(t)
	}
}

// TestAnswered: P2: what is answered shares nothing with another answer.
func TestAnswered(t *testing.T) {
	s := serve(t, 1)
	s.Begin("/d")
	x := New(s, api.Op{Kind: api.Page, ID: 1, N: 2}, 1)
	for x.Step() {
	}
	a, b := x.Result(), x.Result()
	_ = append(a.Names, "zz")
	clear(a.Names)
	if !is(b, api.Result{Names: []string{"a", "b"}}) {
		t.Error("answers share memory:", b)
	}
	clear(b.Names)
	ends(t, s, x, api.Result{Names: []string{"a", "b"}})
	does(t, s, api.Op{Kind: api.Page, ID: 1, N: 1}, api.Result{Names: []string{"c"}, End: true})
}

// TestApart: P2: Tasks of one Server, and of two, have their steps and answers alone.
func TestApart(t *testing.T) {
	s, r := serve(t, 1), serve(t, 1)
	x, y, z := New(s, api.Op{Kind: api.Stat, Path: "f"}, 1), New(s, api.Op{Kind: api.Stat, Path: "x"}, 2), New(r, api.Op{Kind: api.Remove}, 1)
	goes(t, s, x, "-0 r0 r0m")
	goes(t, r, z, "-0 w0 w0m -0me")
	goes(t, s, y, "r0 r0 r0m r0m r0m r1m")
	goes(t, s, x, "-1m -1m")
	stuck(t, s, x)
	goes(t, s, y, "-0me")
	goes(t, s, x, "-1m -0m -0me")
	ends(t, s, x, api.Result{Kind: api.File, Size: 5})
	ends(t, s, y, api.Result{Err: api.ENOENT})
	ends(t, r, z, api.Result{})
	if s.Epoch != 0 || r.Epoch != 1 {
		t.Error("Epoch:", s.Epoch, r.Epoch)
	}
}

// TestAllArguments: P1: all calls end, and none panics, whatever is asked, by whomever.
func TestAllArguments(t *testing.T) {
	numbers := []int{math.MinInt, -1 << 32, -1, 0, 1, 2, 1 << 32, math.MaxInt}
	texts := []string{"", "a", "d", "/", "l/a", "n", "..", "\x00", "\xff", strings.Repeat("/..", 341), strings.Repeat("../", 342), imageOf(t, upper()), imageOf(t, upper())[3:]}
	nothing, _, _ := stack.Stack{}.Add(nil)
	kinds := append([]int{3, 4, 5, 6, 7, 8, 9, 10}, numbers...)
	for _, st := range []stack.Stack{made(t, lower()), {}, nothing} {
		s := server.New(st, server.Config{Shards: 1, Room: 1, Cursors: 3})
		for _, kind := range kinds {
			for _, n := range numbers {
				for _, text := range texts {
					for i := range 3 {
						op := api.Op{Kind: kind, Path: text, Image: text, ID: n, Off: numbers[i], N: n}
						x := New(s, op, numbers[i])
						steps := 0
						for x.Step() {
							steps++
						}
						if x.Result(); !x.Done() || !x.Marked() || steps > 100 {
							t.Fatal("no end", kind, n, steps)
						}
					}
				}
			}
		}
	}
	// Of no Server, and of one by whom something is held, nothing is promised but that it ends.
	for _, kind := range kinds {
		s := serve(t, 1)
		s.Read(1)
		s.Take(server.Lock{}, 1)
		for _, x := range []*Task{New(nil, api.Op{Kind: kind}, 1), New(s, api.Op{Kind: kind}, 1), {}} {
			for range 9 {
				x.Step()
			}
			x.Done()
			x.Marked()
			x.Result()
		}
	}
}
