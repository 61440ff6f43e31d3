package server

import (
	"math"
	"reflect"
	"slices"
	"strconv"
	"strings"
	"testing"

	"socage/api"
	"socage/branch"
	"socage/dcache"
	"socage/gate"
	"socage/image"
	"socage/lcache"
	"socage/merge"
	"socage/seen"
	"socage/spec"
	"socage/stack"
	"socage/tree"
	"socage/union"
)

// last is the greatest number of somebody of which something is promised.
const last = math.MaxInt32

// made: the Stack of trees, the uppermost one last.
func made(t *testing.T, trees ...api.Node) stack.Stack {
	t.Helper()
	s, e := stack.Of(trees...)
	if e != api.OK {
		t.Fatal(e)
	}
	return s
}

// imageOf: a tree as bytes.
func imageOf(t *testing.T, n api.Node) string {
	t.Helper()
	s, e := image.Encode(n)
	if e != api.OK {
		t.Fatal(e)
	}
	return s
}

// branchOf: the Branch of a tree.
func branchOf(t *testing.T, n api.Node) *branch.Branch {
	t.Helper()
	b, e := branch.New(n)
	if e != api.OK {
		t.Fatal(e)
	}
	return b
}

// lower: a tree with directories, files and links.
func lower() api.Node {
	return tree.Dir([]string{"d", "e", "f", "l", "m"}, tree.Dir([]string{"a", "b", "c"}, tree.Text("1"), tree.Link("x"), tree.Dir(nil)), tree.Dir([]string{"z"}, tree.Text("")), tree.Text("hello"), tree.Link("d"), tree.Link("/f"))
}

// upper: what hides some of that, and has some more.
func upper() api.Node {
	return tree.Dir([]string{"d", "e", "f", "m"}, tree.Dir([]string{"a", "n"}, tree.White(), tree.Text("22")), tree.Opaque(tree.Dir([]string{"y"}, tree.Link("../d"))), tree.White(), tree.Dir([]string{"k"}, tree.Text("333")))
}

// many: a directory of so many files: f0, f1 ...
func many(n int) api.Node {
	var names []string
	for i := range n {
		names = append(names, "f"+strconv.Itoa(i))
	}
	slices.Sort(names)
	return tree.Dir(names, slices.Repeat([]api.Node{tree.Text("")}, n)...)
}

// fresh: what is seen by a name, of which nothing is remembered.
func fresh(of stack.Stack, epoch int, p seen.Place, n string) dcache.Entry {
	f, there := seen.Look(of, p, n)
	e := dcache.Entry{Epoch: epoch, There: there, Found: f}
	if there && f.Kind == api.Link {
		e.Target = of.At(f.Level).Target(f.Inode)
	}
	return e
}

// same: two Entries are; a list without items may be nil or not.
func same(a, b dcache.Entry) bool {
	dirs := slices.Equal(a.Found.Dirs, b.Found.Dirs)
	a.Found.Dirs, b.Found.Dirs = nil, nil
	return dirs && reflect.DeepEqual(a, b)
}

// sees: See answers that, with so many hits and misses more.
func sees(t *testing.T, s *Server, of stack.Stack, epoch int, dir string, p seen.Place, n string, want dcache.Entry, hits, misses int) {
	t.Helper()
	h, m, _ := s.Hits()
	if e := s.See(of, epoch, dir, p, n); !same(e, want) {
		t.Errorf("See(%d, %q, %v, %q): %v, not %v", epoch, dir, p, n, e, want)
	}
	if i, j, _ := s.Hits(); i-h != hits || j-m != misses {
		t.Errorf("See(%d, %q, %v, %q): %d hits, %d misses, not %d, %d", epoch, dir, p, n, i-h, j-m, hits, misses)
	}
}

// lists: List answers all that is seen in a directory, and so many lists are made for it.
func lists(t *testing.T, s *Server, dir string, want []merge.Entry, more int) {
	t.Helper()
	_, _, before := s.Hits()
	if l := s.List(dir); !slices.Equal(l, want) {
		t.Errorf("List(%q): %v, not %v", dir, l, want)
	}
	if _, _, now := s.Hits(); now-before != more {
		t.Errorf("List(%q): made %d, not %d", dir, now-before, more)
	}
}

// counted: so many keys are remembered, so many locks held.
func counted(t *testing.T, s *Server, names, lists, held int) {
	t.Helper()
	if n, l := s.Full(); n != names || l != lists || s.Held() != held {
		t.Errorf("Full: %d, %d, Held: %d, not %d, %d, %d", n, l, s.Held(), names, lists, held)
	}
}

// TestExamples: P21.3, P21.4: the chapter's example, written out.
func TestExamples(t *testing.T) {
	st := made(t, lower())
	s := New(st, Config{Shards: 1, Room: 9, Cursors: 1})
	s.See(st, 0, "/", seen.Root(st), "f")
	s.See(st, 0, "/", seen.Root(st), "f")
	if hits, misses, made := s.Hits(); hits != 1 || misses != 1 || made != 0 {
		t.Error("Hits:", hits, misses, made)
	}
}

// TestNew: P21.1: these branches, epoch 0, room for cursors as layer 20 has it; nobody at the gate, no lock, nothing remembered.
func TestNew(t *testing.T) {
	st := made(t, lower(), upper())
	for _, x := range []struct{ cursors, room int }{{math.MinInt, 1}, {-1, 1}, {0, 1}, {1, 1}, {2, 2}, {1023, 1023}, {1024, 1024}, {1025, 1024}, {math.MaxInt, 1024}} {
		s := New(st, Config{Shards: 3, Room: 7, Cursors: x.cursors})
		if s.Room() != x.room || s.Len() != 0 || s.Epoch != 0 || s.Stack.Len() != 2 || s.Stack.At(0) != st.At(0) || s.Stack.ID(1) != 0 {
			t.Error("another State:", s.Room(), s.Len(), s.Epoch, s.Stack.Len())
		}
		if !reflect.DeepEqual(s.Gate, gate.Gate{}) || s.Readers() != 0 || s.Writers() != 0 || s.Waiting() != 0 {
			t.Error("somebody is at the gate")
		}
		if hits, misses, made := s.Hits(); hits != 0 || misses != 0 || made != 0 {
			t.Error("Hits:", hits, misses, made)
		}
		counted(t, s, 0, 0, 0)
	}
	if s := New(stack.Stack{}, Config{}); s.Stack.Len() != 0 || s.Room() != 1 {
		t.Error("of no branches:", s.Stack.Len(), s.Room())
	}
}

// TestRoom: P21.1, P21.4: each shard has room for so many names, and for so many directories, one at least.
func TestRoom(t *testing.T) {
	var dirs []string
	for i := range 9 {
		dirs = append(dirs, "d"+strconv.Itoa(i))
	}
	st := made(t, tree.Dir(dirs, slices.Repeat([]api.Node{tree.Dir(nil)}, 9)...))
	for _, room := range []int{math.MinInt, -1, 0, 1, 2, 5, 8, 9, 10, math.MaxInt} {
		s := New(st, Config{Shards: 1, Room: room})
		for i, n := range dirs {
			is := min(i+1, max(room, 1))
			s.See(st, 0, "/", seen.Root(st), n)
			s.List("/" + n)
			counted(t, s, is, is, 0)
		}
		// Those that were used last are there still.
		for i, n := range slices.Backward(dirs) {
			hit, gone := 1, 0
			if len(dirs)-i > max(room, 1) {
				hit, gone = 0, 1
			}
			sees(t, s, st, 0, "/", seen.Root(st), n, fresh(st, 0, seen.Root(st), n), hit, gone)
			lists(t, s, "/"+n, nil, gone)
		}
	}
}

// TestShards: P21.1: as many shards of names, and of directories, as layers 15 and 16 make of so many: one at least, 256 at most; each has its lock.
func TestShards(t *testing.T) {
	for _, shards := range []int{math.MinInt, -1, 0, 1, 2, 3, 255, 256, 257, math.MaxInt} {
		s := New(stack.Stack{}, Config{Shards: shards, Room: 1})
		names, lists := dcache.New(shards, 1), lcache.New(shards, 1)
		locks := map[Lock]bool{}
		for i := range 3000 {
			dir, n := "/d"+strconv.Itoa(i%7), "n"+strconv.Itoa(i)
			if l, want := s.NameLock(dir, n), (Lock{Shard: names.Shard(dir, n)}); l != want {
				t.Fatal("NameLock", dir, n, l, want)
			}
			if l, want := s.ListLock(dir+"/"+n), (Lock{Lists: true, Shard: lists.Of(dir + "/" + n)}); l != want {
				t.Fatal("ListLock", dir, n, l, want)
			}
			locks[s.NameLock(dir, n)], locks[s.ListLock(dir+"/"+n)] = true, true
		}
		if len(locks) != 2*min(max(shards, 1), 256) {
			t.Error("locks of", shards, "shards:", len(locks))
		}
	}
	s := New(stack.Stack{}, Config{Shards: 256, Room: 1})
	// At the root a name's path has one slash; a name's lock is that of its own path, not of its directory's.
	if s.NameLock("/", "a").Shard != s.ListLock("/a").Shard || s.NameLock("/d", "a").Shard != s.ListLock("/d/a").Shard || s.NameLock("/d", "a") == s.NameLock("/e", "a") || s.NameLock("/d", "a") == s.NameLock("/d", "b") || s.ListLock("/d") == s.ListLock("/e") {
		t.Error("other locks")
	}
	counted(t, s, 0, 0, 0)
}

// held is a call of Take or Give, and what it answers.
type held struct {
	give bool
	l    Lock
	id   int
	ok   bool
}

// TestTake: P21.2: a lock is held by one, once; who holds it gives it, once; others are of no matter to it.
func TestTake(t *testing.T) {
	var a, b, c = Lock{}, Lock{Shard: 255}, Lock{Lists: true}
	s := New(stack.Stack{}, Config{Shards: 256})
	now := 0
	for i, x := range []held{
		{true, a, 0, false}, {true, a, 1, false},
		{false, a, 1, true}, {false, a, 1, false}, {false, a, 0, false}, {false, a, last, false},
		{true, a, 0, false}, {true, b, 1, false}, {true, c, 1, false},
		{false, b, 0, true}, {false, b, 0, false}, {false, b, 1, false}, {true, b, 1, false},
		{false, c, last, true}, {false, c, 1, false}, {true, c, 1, false}, {true, a, last, false},
		{true, a, 1, true}, {true, a, 1, false}, {false, a, last, true}, {false, a, 1, false}, {true, a, 1, false},
		{true, b, 0, true}, {true, b, 0, false}, {true, c, last, true}, {false, c, 0, true}, {true, c, last, false},
		{false, b, 0, true}, {true, a, last, true}, {true, b, 0, true}, {true, c, 0, true}, {true, c, 0, false},
	} {
		if x.give {
			if s.Give(x.l, x.id) != x.ok {
				t.Error(i, "Give", x)
			}
			if x.ok {
				now--
			}
		} else {
			if s.Take(x.l, x.id) != x.ok {
				t.Error(i, "Take", x)
			}
			if x.ok {
				now++
			}
		}
		counted(t, s, 0, 0, now)
	}
}

// TestTakeAll: P21.2: all 512 locks can be held at once, by one or by many, whatever shards there are.
func TestTakeAll(t *testing.T) {
	for _, by := range []int{1, 2, 512} {
		s := New(stack.Stack{}, Config{Shards: 1})
		all := func(do func(l Lock, id int)) {
			for i := range 512 {
				do(Lock{Lists: i%2 == 1, Shard: i / 2}, i%by)
			}
		}
		all(func(l Lock, id int) {
			if !s.Take(l, id) || s.Take(l, id) || s.Take(l, id+1) {
				t.Fatal("Take", l, id)
			}
		})
		counted(t, s, 0, 0, 512)
		all(func(l Lock, id int) {
			if s.Give(l, id+1) || !s.Give(l, id) || s.Give(l, id) {
				t.Fatal("Give", l, id)
			}
		})
		counted(t, s, 0, 0, 0)
	}
}

// TestTakePlain: P21.2: all rows of six calls, of two locks and two that take and give them, as the chapter says of each.
func TestTakePlain(t *testing.T) {
	locks := []Lock{{}, {Lists: true}}
	for row := range 1 << 18 {
		s := New(stack.Stack{}, Config{Shards: 1})
		holder := [2]int{-1, -1}
		for i := range 6 {
			x := row >> (3 * i)
			give, k, id := x&1 == 1, x>>1&1, x>>2&1
			free, mine := holder[k] < 0, holder[k] == id
			var ok bool
			switch {
			case give:
				if ok = s.Give(locks[k], id); mine {
					holder[k] = -1
				}
			default:
				if ok = s.Take(locks[k], id); free {
					holder[k] = id
				}
			}
			n := 0
			for _, h := range holder {
				n += (h + 2) / 2
			}
			if ok != (give && mine || !give && free) || s.Held() != n {
				t.Fatalf("row %o, call %d: %v, Held %d", row, i, ok, s.Held())
			}
		}
	}
}

// TestSee: P21.3: what layer 8 says of a name, of the Stack's directories that are one; and the same, as it is remembered.
func TestSee(t *testing.T) {
	st := made(t, lower(), upper())
	s := New(st, Config{Shards: 4, Room: 100})
	root := seen.Root(st)
	d, _ := seen.Look(st, root, "d")
	e, _ := seen.Look(st, root, "e")
	for _, x := range []struct {
		dir, n string
		p      seen.Place
		want   dcache.Entry
	}{
		{"/", "d", root, dcache.Entry{There: true, Found: seen.Found{Kind: api.Dir, Spot: seen.Spot{Inode: 1}, Dirs: seen.Place{{Inode: 1}, {Level: 1, Inode: 1}}}}},
		{"/", "e", root, dcache.Entry{There: true, Found: seen.Found{Kind: api.Dir, Spot: seen.Spot{Inode: 4}, Dirs: seen.Place{{Inode: 4}}}}},
		{"/", "f", root, dcache.Entry{}},
		{"/", "l", root, dcache.Entry{There: true, Found: seen.Found{Kind: api.Link, Spot: seen.Spot{Level: 1, Inode: 8}}, Target: "d"}},
		{"/", "m", root, dcache.Entry{There: true, Found: seen.Found{Kind: api.Dir, Spot: seen.Spot{Inode: 7}, Dirs: seen.Place{{Inode: 7}}}}},
		{"/", "x", root, dcache.Entry{}},
		{"/d", "a", d.Dirs, dcache.Entry{}},
		{"/d", "b", d.Dirs, dcache.Entry{There: true, Found: seen.Found{Kind: api.Link, Spot: seen.Spot{Level: 1, Inode: 3}}, Target: "x"}},
		{"/d", "n", d.Dirs, dcache.Entry{There: true, Found: seen.Found{Kind: api.File, Spot: seen.Spot{Inode: 3}}}},
		{"/e", "y", e.Dirs, dcache.Entry{There: true, Found: seen.Found{Kind: api.Link, Spot: seen.Spot{Inode: 5}}, Target: "../d"}},
		{"/e", "z", e.Dirs, dcache.Entry{}},
	} {
		sees(t, s, st, 0, x.dir, x.p, x.n, x.want, 0, 1)
		for range 2 {
			sees(t, s, st, 0, x.dir, x.p, x.n, x.want, 1, 0)
		}
	}
	// The Stack and the Epoch that are asked for aren't those of the Server.
	if s.Epoch != 0 || s.Stack.Len() != 2 || s.Held() != 0 {
		t.Error("the Server was changed")
	}
}

// TestSeeEpochs: P21.3: what is remembered of the epoch is answered, of whatever Stack; of another one it is looked for, and remembered but where something is of a later epoch.
func TestSeeEpochs(t *testing.T) {
	file, link, none := made(t, tree.Dir([]string{"a"}, tree.Text("1"))), made(t, tree.Dir([]string{"a"}, tree.Link("z"))), stack.Stack{}
	isFile := func(epoch int) dcache.Entry { return fresh(file, epoch, seen.Root(file), "a") }
	isLink := func(epoch int) dcache.Entry { return fresh(link, epoch, seen.Root(link), "a") }
	s := New(none, Config{Shards: 2, Room: 2})
	sees(t, s, file, 5, "/", seen.Root(file), "a", isFile(5), 0, 1)
	sees(t, s, link, 5, "/", seen.Root(link), "a", isFile(5), 1, 0)
	sees(t, s, none, 5, "/", nil, "a", isFile(5), 1, 0)
	// An elder epoch's isn't kept, and leaves what there is.
	for range 3 {
		sees(t, s, link, 4, "/", seen.Root(link), "a", isLink(4), 0, 1)
		sees(t, s, none, 0, "/", nil, "a", dcache.Entry{}, 0, 1)
		sees(t, s, link, 5, "/", seen.Root(link), "a", isFile(5), 1, 0)
	}
	// A later epoch's is.
	sees(t, s, link, 6, "/", seen.Root(link), "a", isLink(6), 0, 1)
	sees(t, s, none, 6, "/", nil, "a", isLink(6), 1, 0)
	sees(t, s, file, 5, "/", seen.Root(file), "a", isFile(5), 0, 1)
	sees(t, s, none, math.MaxInt, "/", nil, "a", dcache.Entry{Epoch: math.MaxInt}, 0, 1)
	sees(t, s, link, math.MaxInt, "/", seen.Root(link), "a", dcache.Entry{Epoch: math.MaxInt}, 1, 0)
	counted(t, s, 1, 0, 0)
	// Another name, and another directory, are other keys.
	sees(t, s, file, 5, "/", seen.Root(file), "b", dcache.Entry{Epoch: 5}, 0, 1)
	low := made(t, lower())
	d, _ := seen.Look(low, seen.Root(low), "d")
	sees(t, s, low, 5, "/d", d.Dirs, "a", fresh(low, 5, d.Dirs, "a"), 0, 1)
}

// all: what is seen in a directory, of which nothing is remembered.
func all(t *testing.T, s *Server, dir string) []merge.Entry {
	t.Helper()
	_, l, e := union.List(s.Stack, dir)
	if e != api.OK {
		t.Fatal("List of", dir, e)
	}
	return l
}

// TestList: P21.3: all that is seen in a directory, once made in each epoch; a list that has nothing is one, too.
func TestList(t *testing.T) {
	s := New(made(t, lower()), Config{Shards: 2, Room: 9})
	lists(t, s, "/", []merge.Entry{{Name: "d", Kind: api.Dir}, {Name: "e", Kind: api.Dir}, {Name: "f", Kind: api.File}, {Name: "l", Kind: api.Link}, {Name: "m", Kind: api.Link}}, 1)
	lists(t, s, "/d", []merge.Entry{{Name: "a", Kind: api.File}, {Name: "b", Kind: api.Link}, {Name: "c", Kind: api.Dir}}, 1)
	lists(t, s, "/d/c", nil, 1)
	for range 2 {
		for _, dir := range []string{"/", "/d", "/d/c"} {
			lists(t, s, dir, all(t, s, dir), 0)
		}
	}
	s.Add(branchOf(t, upper()))
	for more := 1; more >= 0; more-- {
		lists(t, s, "/", []merge.Entry{{Name: "d", Kind: api.Dir}, {Name: "e", Kind: api.Dir}, {Name: "l", Kind: api.Link}, {Name: "m", Kind: api.Dir}}, more)
		lists(t, s, "/d", []merge.Entry{{Name: "b", Kind: api.Link}, {Name: "c", Kind: api.Dir}, {Name: "n", Kind: api.File}}, more)
		lists(t, s, "/e", []merge.Entry{{Name: "y", Kind: api.Link}}, more)
	}
	// Another epoch that has the same branches again is another one.
	s.Remove(1)
	for more := 1; more >= 0; more-- {
		lists(t, s, "/", all(t, s, "/"), more)
		lists(t, s, "/d/c", nil, more)
	}
	s.Remove(0)
	for more := 1; more >= 0; more-- {
		lists(t, s, "/", nil, more)
	}
	// It is the State's own Epoch that is asked for, and its Stack that is listed.
	s.Epoch, s.Stack = 1, made(t, many(2))
	for range 2 {
		lists(t, s, "/", all(t, s, "/"), 1)
	}
	s.Epoch, s.Stack = 3, made(t, many(3))
	lists(t, s, "/", nil, 0)
}

// TestLocks: P21.3: locks, and who is at the gate, are of no matter to See and List.
func TestLocks(t *testing.T) {
	st := made(t, lower())
	s := New(st, Config{Shards: 1, Room: 5})
	if !s.Take(s.NameLock("/", "f"), 1) || !s.Take(s.ListLock("/"), 2) || !s.Write(3) {
		t.Fatal("locks")
	}
	sees(t, s, st, 0, "/", seen.Root(st), "f", fresh(st, 0, seen.Root(st), "f"), 0, 1)
	sees(t, s, st, 0, "/", seen.Root(st), "f", fresh(st, 0, seen.Root(st), "f"), 1, 0)
	lists(t, s, "/", all(t, s, "/"), 1)
	lists(t, s, "/", all(t, s, "/"), 0)
	counted(t, s, 1, 1, 2)
	if !s.In(3) || s.Writers() != 1 || !s.Give(s.NameLock("/", "f"), 1) || !s.Give(s.ListLock("/"), 2) {
		t.Error("somebody else is in, or has a lock")
	}
	// What the State does by itself neither asks what is remembered, nor remembers anything.
	s.Do(api.Op{Kind: api.Open, Path: "l"})
	s.Do(api.Op{Kind: api.Page, ID: 1, N: 1})
	s.Do(api.Op{Kind: api.Stat, Path: "m"})
	if hits, misses, made := s.Hits(); hits != 1 || misses != 1 || made != 1 {
		t.Error("Hits:", hits, misses, made)
	}
}

// TestFull: P21.4: the fullest shard's keys, of names and of lists, whatever the others have.
func TestFull(t *testing.T) {
	st := made(t, many(40))
	s := New(st, Config{Shards: 3, Room: 100})
	var names, lists [3]int
	for i := range 40 {
		n := "f" + strconv.Itoa(i)
		s.See(st, 0, "/", seen.Root(st), n)
		names[s.NameLock("/", n).Shard]++
		counted(t, s, slices.Max(names[:]), slices.Max(lists[:]), 0)
		if i%3 == 0 {
			s.List("/" + n)
			lists[s.ListLock("/"+n).Shard]++
			counted(t, s, slices.Max(names[:]), slices.Max(lists[:]), 0)
		}
	}
}

// TestPlain: P21.1, P21.3, P21.4: many calls, one behind the other, as layers 15, 16 and 20 say of them.
func TestPlain(t *testing.T) {
	low, up := imageOf(t, lower()), imageOf(t, upper())
	for _, c := range []Config{{1, 1, 1}, {1, 3, 2}, {2, 1, 9}, {5, 2, 3}, {256, 100, 1024}} {
		s, p := New(made(t, lower()), c), spec.New(made(t, lower()), c.Cursors)
		names, made := dcache.New(c.Shards, c.Room), lcache.New(c.Shards, c.Room)
		stacks := []stack.Stack{s.Stack}
		x := uint32(1)
		next := func(n int) int {
			x = x*1664525 + 1013904223
			return int(x>>8) % n
		}
		for i := range 3000 {
			switch next(8) {
			case 0:
				op := []api.Op{{Kind: api.Add, Image: low}, {Kind: api.Add, Image: up}, {Kind: api.Remove, ID: next(s.Epoch + 1)}, {Kind: api.Open, Path: "d"}, {Kind: api.Page, ID: s.Epoch % 9, N: 2}, {Kind: api.Close, ID: next(9)}}[next(6)]
				if a, b := s.Do(op), p.Do(op); !reflect.DeepEqual(a, b) {
					t.Fatal("Do", op.Kind, a, b)
				}
				if s.Epoch == len(stacks) {
					stacks = append(stacks, s.Stack)
				}
			case 1, 2:
				dir := []string{"/", "/d", "/e", "/m"}[next(4)]
				want := made.Take(s.Epoch, dir, func() []merge.Entry {
					_, l, _ := union.List(p.Stack, dir)
					return l
				})
				if l := s.List(dir); !slices.Equal(l, want) {
					t.Fatal("List", dir, l, want)
				}
			default:
				epoch := max(s.Epoch-next(3), 0)
				root, n := seen.Root(stacks[epoch]), []string{"d", "e", "f", "l", "m", "x"}[next(6)]
				want, ok := names.Look(epoch, "/", n)
				if !ok {
					want = fresh(stacks[epoch], epoch, root, n)
					names.Keep("/", n, want)
				}
				if e := s.See(stacks[epoch], epoch, "/", root, n); !same(e, want) {
					t.Fatal("See", epoch, n, e, want)
				}
			}
			hits, misses := names.Counts()
			if h, m, l := s.Hits(); h != hits || m != misses || l != made.Made() {
				t.Fatal(i, "Hits:", h, m, l, "not", hits, misses, made.Made())
			}
			counted(t, s, names.Most(), made.Most(), 0)
		}
	}
}

// TestShared: P21.1: a Server's State and Gate are there to be used, by their own calls.
func TestShared(t *testing.T) {
	s := New(made(t, lower()), Config{Shards: 1, Room: 1, Cursors: 2})
	if !s.Read(1) || s.Write(2) || s.Read(3) || s.Readers() != 1 || s.Waiting() != 1 || !s.In(1) || !s.Gate.Leave(1) || !s.Write(2) || s.Gate.Writers() != 1 || !s.Leave(2) {
		t.Error("the gate")
	}
	if r := s.Begin("/d"); r.ID != 1 || s.Len() != 1 || s.Room() != 2 {
		t.Error("Begin", r)
	}
	if c, e := s.Stale(1); c.Dir != "/d" || e != api.OK {
		t.Error("Stale", c, e)
	}
	if r := s.Page(api.Op{Kind: api.Page, ID: 1, N: 2}, s.List("/d")); !slices.Equal(r.Names, []string{"a", "b"}) || r.End {
		t.Error("Page", r)
	}
	if r := s.Add(branchOf(t, upper())); r.ID != 1 || s.Epoch != 1 || s.State.Epoch != 1 || s.Stack.Len() != 2 {
		t.Error("Add", r)
	}
	if _, e := s.Stale(1); e != api.ESTALE || s.Close(1) != api.OK || s.Close(1) != api.EBADF {
		t.Error("Stale", e)
	}
	if r := s.Remove(0); r.Err != api.OK || s.Stack.Len() != 1 {
		t.Error("Remove", r)
	}
}

// TestRefused: P2: a Take or a Give that is false leaves who holds what.
func TestRefused(t *testing.T) {
	s := New(stack.Stack{}, Config{Shards: 2})
	a, b := Lock{Shard: 1}, Lock{Lists: true, Shard: 1}
	s.Take(a, 1)
	for range 3 {
		if s.Take(a, 2) || s.Take(a, 1) || s.Give(a, 2) || s.Give(b, 1) || s.Give(b, 0) || s.Held() != 1 {
			t.Error("refused")
		}
	}
	if !s.Take(b, 2) || !s.Give(a, 1) || !s.Take(a, 2) || !s.Give(b, 2) || !s.Give(a, 2) || s.Held() != 0 {
		t.Error("who holds what was changed")
	}
}

// TestHandedIn: P2: See neither changes nor keeps a Place that is handed in, nor its spare room.
func TestHandedIn(t *testing.T) {
	st := made(t, lower(), upper())
	for _, n := range []string{"d", "f", "l", "x"} {
		s := New(st, Config{Shards: 1, Room: 9})
		want := fresh(st, 0, seen.Root(st), n)
		room := append(seen.Root(st), seen.Spot{Level: 7, Inode: 7}, seen.Spot{Level: 8, Inode: 8})
		was := slices.Clone(room)
		e := s.See(st, 0, "/", room[:2], n)
		if _ = append(e.Found.Dirs, seen.Spot{Level: 9}); !slices.Equal(room, was) {
			t.Error("what was handed in, or its room, was changed:", room)
		}
		clear(room)
		if !same(e, want) {
			t.Error("what was handed in is answered:", e)
		}
		sees(t, s, st, 0, "/", seen.Root(st), n, want, 1, 0)
	}
}

// TestAnswered: P2: what is answered shares nothing with another answer, or with what is kept.
func TestAnswered(t *testing.T) {
	st := made(t, lower(), upper())
	s := New(st, Config{Shards: 1, Room: 9})
	entry, list := fresh(st, 0, seen.Root(st), "d"), all(t, s, "/")
	for range 3 {
		a, b := s.See(st, 0, "/", seen.Root(st), "d"), s.See(st, 0, "/", seen.Root(st), "d")
		_ = append(a.Found.Dirs, seen.Spot{Level: 9})
		clear(a.Found.Dirs)
		if !same(b, entry) {
			t.Error("answers share memory:", b)
		}
		clear(b.Found.Dirs)
		x, y := s.List("/"), s.List("/")
		_ = append(x, merge.Entry{Name: "zz"})
		clear(x)
		if !slices.Equal(y, list) {
			t.Error("answers share memory:", y)
		}
		clear(y)
	}
	sees(t, s, st, 0, "/", seen.Root(st), "d", entry, 1, 0)
	lists(t, s, "/", list, 0)
	if !slices.Equal(all(t, s, "/"), list) {
		t.Error("the branches were changed")
	}
}

// TestApart: P2: Servers of one Stack have all else of their own.
func TestApart(t *testing.T) {
	st := made(t, lower())
	a, b := New(st, Config{Shards: 1, Room: 2, Cursors: 1}), New(st, Config{Shards: 1, Room: 2, Cursors: 1})
	l := a.ListLock("/")
	if !a.Take(l, 1) || !b.Take(l, 2) || !a.Give(l, 1) || b.Held() != 1 || !a.Write(1) || !b.Read(1) {
		t.Error("locks, or gates, are shared")
	}
	a.See(st, 0, "/", seen.Root(st), "f")
	a.List("/")
	a.Begin("/")
	a.Remove(0)
	if hits, misses, made := b.Hits(); hits != 0 || misses != 0 || made != 0 || b.Len() != 0 || b.Epoch != 0 || b.Stack.Len() != 1 || st.Len() != 1 {
		t.Error("Servers share what they have")
	}
	counted(t, a, 1, 1, 0)
	counted(t, b, 0, 0, 1)
}

// TestAllArguments: P1: all calls end, and none panics, whatever the numbers and texts.
func TestAllArguments(t *testing.T) {
	numbers := []int{math.MinInt, -1 << 32, -1, 0, 1, 2, 63, 64, 255, 256, 257, 1 << 32, math.MaxInt}
	texts := []string{"", "a", "d", "/", "//", ".", "..", "/d/", "/l", "/f", "/f/x", "d/..", "\x00", "\xff", "/a\xff\x00", strings.Repeat("/a", 1<<12)}
	st := made(t, lower(), upper())
	nothing, _, _ := stack.Stack{}.Add(nil)
	for _, x := range numbers {
		for _, y := range numbers {
			s := New([]stack.Stack{st, {}, nothing}[(x^y)&1+(y&1)], Config{Shards: x, Room: y, Cursors: x})
			for i, dir := range texts {
				for j, id := range numbers {
					l := Lock{Lists: i%2 == 0, Shard: id}
					s.Give(l, x)
					s.Take(l, y)
					s.Take(l, id)
					n := texts[(i+j)%len(texts)]
					p := []seen.Place{nil, seen.Root(st), {{Level: id, Inode: id}}, {{Level: y, Inode: x}, {}, {}}}[j%4]
					s.See([]stack.Stack{st, {}, nothing}[i%3], id, dir, p, n)
					s.NameLock(dir, n)
				}
				s.ListLock(dir)
				s.List(dir)
			}
			s.Held()
			s.Full()
			s.Hits()
		}
	}
}
