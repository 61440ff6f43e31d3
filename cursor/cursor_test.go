package cursor

import (
	"math"
	"slices"
	"strconv"
	"strings"
	"testing"

	"socage/api"
)

// last is the greatest number of entries of which something is promised.
const last = math.MaxInt32

// opens: Open answers that number.
func opens(t *testing.T, c *Table, epoch int, dir string, want int) {
	t.Helper()
	if id, e := c.Open(epoch, dir); id != want || e != api.OK {
		t.Errorf("Open(%d, %.20q): %d, %v, not %d", epoch, dir, id, e, want)
	}
}

// isFull: Open answers that there is no room.
func isFull(t *testing.T, c *Table) {
	t.Helper()
	if id, e := c.Open(7, "/full"); id != 0 || e != api.EMFILE {
		t.Errorf("Open: %d, %v, though there is no room", id, e)
	}
}

// has: Get answers that Cursor.
func has(t *testing.T, c *Table, id int, want Cursor) {
	t.Helper()
	if x, e := c.Get(id); x != want || e != api.OK {
		t.Errorf("Get(%d): %v, %v, not %v", id, x, e, want)
	}
}

// hasNone: no such Cursor is open: it can neither be had, nor moved, nor closed.
func hasNone(t *testing.T, c *Table, ids ...int) {
	t.Helper()
	for _, id := range ids {
		if x, e := c.Get(id); x != (Cursor{}) || e != api.EBADF {
			t.Errorf("Get(%d): %v, %v", id, x, e)
		}
		for _, n := range []int{0, 1, last} {
			if e := c.Move(id, n); e != api.EBADF {
				t.Errorf("Move(%d, %d): %v", id, n, e)
			}
		}
		if e := c.Close(id); e != api.EBADF {
			t.Errorf("Close(%d): %v", id, e)
		}
	}
}

// moves: Move answers OK.
func moves(t *testing.T, c *Table, id, n int) {
	t.Helper()
	if e := c.Move(id, n); e != api.OK {
		t.Errorf("Move(%d, %d): %v", id, n, e)
	}
}

// closes: Close answers OK.
func closes(t *testing.T, c *Table, id int) {
	t.Helper()
	if e := c.Close(id); e != api.OK {
		t.Errorf("Close(%d): %v", id, e)
	}
}

// counted: so many are open, and there is room for so many.
func counted(t *testing.T, c *Table, open, room int) {
	t.Helper()
	if c.Len() != open || c.Room() != room {
		t.Errorf("Len, Room: %d, %d, not %d, %d", c.Len(), c.Room(), open, room)
	}
}

// TestExamples: P18.1: the chapter's example, written out.
func TestExamples(t *testing.T) {
	c := New(1)
	opens(t, c, 1, "/a", 1)
	isFull(t, c)
	closes(t, c, 1)
	opens(t, c, 1, "/a", 2)
}

// TestRoom: P18.1: room for one at least, 1024 at most; each Table is filled up to its room, and one beyond.
func TestRoom(t *testing.T) {
	for _, x := range []struct{ room, want int }{
		{math.MinInt, 1}, {-1 << 32, 1}, {-1, 1}, {0, 1}, {1, 1}, {2, 2}, {3, 3}, {100, 100}, {1023, 1023}, {1024, 1024}, {1025, 1024}, {1 << 32, 1024}, {1<<32 + 1, 1024}, {math.MaxInt, 1024},
	} {
		c := New(x.room)
		for i := range x.want {
			counted(t, c, i, x.want)
			opens(t, c, i, "/"+strconv.Itoa(i), i+1)
		}
		for range 2 {
			counted(t, c, x.want, x.want)
			isFull(t, c)
		}
		for i := range x.want {
			has(t, c, i+1, Cursor{Epoch: i, Dir: "/" + strconv.Itoa(i)})
		}
		hasNone(t, c, 0, x.want+1)
		// One goes, whichever it is: there is room for one.
		closes(t, c, x.want/2+1)
		counted(t, c, x.want-1, x.want)
		opens(t, c, 1, "/more", x.want+1)
		isFull(t, c)
		has(t, c, x.want+1, Cursor{Epoch: 1, Dir: "/more"})
		hasNone(t, c, x.want/2+1)
	}
	if MaxCursors != 1024 {
		t.Error("MaxCursors")
	}
}

// TestNew: P18.1, P18.2: a new Table has no Cursors.
func TestNew(t *testing.T) {
	c := New(3)
	counted(t, c, 0, 3)
	hasNone(t, c, math.MinInt, -1, 0, 1, 2, 3, last, math.MaxInt)
	counted(t, c, 0, 3)
	opens(t, c, 0, "/", 1)
}

// TestOpen: P18.1: a Cursor is of the epoch and the directory that were told, whatever they are, from its beginning on.
func TestOpen(t *testing.T) {
	epochs := []int{0, 1, 2, last, -1, math.MinInt, math.MaxInt}
	dirs := []string{"/", "/a", "/a/b", "", "a", "/\x00\xff", strings.Repeat("/n", 512)}
	c := New(100)
	var want []Cursor
	for _, epoch := range epochs {
		for _, dir := range dirs {
			opens(t, c, epoch, dir, len(want)+1)
			want = append(want, Cursor{Epoch: epoch, Dir: dir})
		}
	}
	for range 2 {
		for i, x := range want {
			has(t, c, i+1, x)
		}
	}
	counted(t, c, len(want), 100)
}

// TestNumbers: P18.1: no number is given twice, whatever was closed, and what was refused counts for none.
func TestNumbers(t *testing.T) {
	c := New(2)
	next := 1
	for i := range 3000 {
		opens(t, c, i, "/a", next)
		opens(t, c, i, "/b", next+1)
		for range i % 3 {
			isFull(t, c)
		}
		hasNone(t, c, next-2, next-1, next+2, next+3)
		has(t, c, next, Cursor{Epoch: i, Dir: "/a"})
		has(t, c, next+1, Cursor{Epoch: i, Dir: "/b"})
		closes(t, c, next+i%2)
		counted(t, c, 1, 2)
		closes(t, c, next+1-i%2)
		counted(t, c, 0, 2)
		next += 2
	}
}

// TestMove: P18.2: At is as many more, of that Cursor alone: none, one, and as many as may be.
func TestMove(t *testing.T) {
	c := New(3)
	for i := range 3 {
		opens(t, c, 5, "/a", i+1)
	}
	at := 0
	for _, n := range []int{0, 1, 0, 2, 1000, 1 << 20, last - 1 - 2 - 1000 - 1<<20} {
		moves(t, c, 2, n)
		at += n
		has(t, c, 2, Cursor{Epoch: 5, Dir: "/a", At: at})
		has(t, c, 1, Cursor{Epoch: 5, Dir: "/a"})
		has(t, c, 3, Cursor{Epoch: 5, Dir: "/a"})
	}
	moves(t, c, 2, 0)
	moves(t, c, 3, last)
	moves(t, c, 1, 7)
	has(t, c, 1, Cursor{Epoch: 5, Dir: "/a", At: 7})
	has(t, c, 2, Cursor{Epoch: 5, Dir: "/a", At: last})
	has(t, c, 3, Cursor{Epoch: 5, Dir: "/a", At: last})
	counted(t, c, 3, 3)
	// One that is opened afterwards is at the beginning.
	closes(t, c, 3)
	opens(t, c, 6, "/a", 4)
	has(t, c, 4, Cursor{Epoch: 6, Dir: "/a"})
}

// TestClose: P18.2: what is closed is open no more; the others are, as they were.
func TestClose(t *testing.T) {
	for _, order := range [][]int{{1, 2, 3}, {1, 3, 2}, {2, 1, 3}, {2, 3, 1}, {3, 1, 2}, {3, 2, 1}} {
		c := New(4)
		for id := 1; id <= 3; id++ {
			opens(t, c, id, "/a", id)
			moves(t, c, id, 10*id)
		}
		for i, id := range order {
			closes(t, c, id)
			hasNone(t, c, order[:i+1]...)
			counted(t, c, 2-i, 4)
			for _, other := range order[i+1:] {
				has(t, c, other, Cursor{Epoch: other, Dir: "/a", At: 10 * other})
			}
		}
		opens(t, c, 1, "/", 4)
		hasNone(t, c, 1, 2, 3)
	}
}

// plain is what the chapter says of a Table, in lists.
type plain struct {
	room, ever int
	ids        []int
	cursors    []Cursor
}

func (p *plain) Open(epoch int, dir string) (int, api.Errno) {
	if len(p.ids) == p.room {
		return 0, api.EMFILE
	}
	p.ever++
	p.ids = append(p.ids, p.ever)
	p.cursors = append(p.cursors, Cursor{epoch, dir, 0})
	return p.ever, api.OK
}

func (p *plain) Move(id, n int) api.Errno {
	i := slices.Index(p.ids, id)
	if i < 0 {
		return api.EBADF
	}
	p.cursors[i].At += n
	return api.OK
}

func (p *plain) Close(id int) api.Errno {
	i := slices.Index(p.ids, id)
	if i < 0 {
		return api.EBADF
	}
	p.ids = slices.Delete(p.ids, i, i+1)
	p.cursors = slices.Delete(p.cursors, i, i+1)
	return api.OK
}

// holds: a Table has what the chapter says.
func holds(t *testing.T, c *Table, p *plain) {
	t.Helper()
	counted(t, c, len(p.ids), p.room)
	for id := -1; id < p.ever+3; id++ {
		if i := slices.Index(p.ids, id); i >= 0 {
			has(t, c, id, p.cursors[i])
		} else if x, e := c.Get(id); x != (Cursor{}) || e != api.EBADF {
			t.Errorf("Get(%d): %v, %v", id, x, e)
		}
	}
}

// TestPlain: P18.1, P18.2: many calls, one behind the other, as the chapter says of each.
func TestPlain(t *testing.T) {
	for _, room := range []int{1, 2, 3, 10, 1024} {
		for seed := range uint32(5) {
			c, p := New(room), &plain{room: room}
			for i := range 1500 {
				seed = seed*1664525 + 1013904223
				n := int(seed >> 12 % 100)
				id := p.ever - n%(room+3) + 2
				switch seed >> 8 % 5 {
				case 0, 1:
					id, e := c.Open(n, "/d"+strconv.Itoa(i))
					if want, f := p.Open(n, "/d"+strconv.Itoa(i)); id != want || e != f {
						t.Fatal("Open", id, e, "not", want, f)
					}
				case 2, 3:
					if e, f := c.Move(id, n), p.Move(id, n); e != f {
						t.Fatal("Move of", id, e, "not", f)
					}
				default:
					if e, f := c.Close(id), p.Close(id); e != f {
						t.Fatal("Close of", id, e, "not", f)
					}
				}
				if i%100 == 0 {
					holds(t, c, p)
				}
			}
			holds(t, c, p)
		}
	}
}

// TestRefused: P2: what is refused leaves the Table as it was.
func TestRefused(t *testing.T) {
	c := New(2)
	opens(t, c, 3, "/a", 1)
	opens(t, c, 4, "/b", 2)
	moves(t, c, 2, 9)
	for range 3 {
		isFull(t, c)
		hasNone(t, c, math.MinInt, -1, 0, 3, 4, 1<<32+1, math.MaxInt)
		counted(t, c, 2, 2)
		has(t, c, 1, Cursor{Epoch: 3, Dir: "/a"})
		has(t, c, 2, Cursor{Epoch: 4, Dir: "/b", At: 9})
	}
	closes(t, c, 1)
	hasNone(t, c, 1, 3)
	opens(t, c, 5, "/c", 3)
	has(t, c, 3, Cursor{Epoch: 5, Dir: "/c"})
}

// TestAnswered: P2: what is answered is a Cursor of its own.
func TestAnswered(t *testing.T) {
	c := New(1)
	opens(t, c, 3, "/a", 1)
	x, _ := c.Get(1)
	x.Epoch, x.Dir, x.At = 9, "/x", 9
	has(t, c, 1, Cursor{Epoch: 3, Dir: "/a"})
	x, _ = c.Get(1)
	moves(t, c, 1, 4)
	if x != (Cursor{Epoch: 3, Dir: "/a"}) {
		t.Error("Get:", x)
	}
	closes(t, c, 1)
	if x != (Cursor{Epoch: 3, Dir: "/a"}) {
		t.Error("Get:", x)
	}
}

// TestApart: P2: Tables have Cursors, and numbers, of their own.
func TestApart(t *testing.T) {
	a, b := New(2), New(1)
	opens(t, a, 1, "/a", 1)
	opens(t, a, 1, "/b", 2)
	opens(t, b, 2, "/c", 1)
	moves(t, a, 1, 5)
	closes(t, a, 2)
	hasNone(t, b, 2)
	has(t, b, 1, Cursor{Epoch: 2, Dir: "/c"})
	closes(t, b, 1)
	has(t, a, 1, Cursor{Epoch: 1, Dir: "/a", At: 5})
	counted(t, a, 1, 2)
	counted(t, b, 0, 1)
	opens(t, b, 3, "/d", 2)
	hasNone(t, a, 2)
}

// TestAllArguments: P1: all calls end, and none panics, whatever the numbers and texts.
func TestAllArguments(t *testing.T) {
	numbers := []int{math.MinInt, -1 << 32, -1, 0, 1, 2, 1023, 1024, 1025, last, last + 1, 1 << 32, math.MaxInt}
	texts := []string{"", "a", "/", "//", "..", "\x00", "\xff", strings.Repeat("/a", 1<<14)}
	for _, room := range numbers {
		c := New(room)
		for _, epoch := range numbers {
			for _, dir := range texts {
				c.Open(epoch, dir)
			}
			for _, id := range numbers {
				for _, n := range numbers {
					c.Move(id, n)
				}
				c.Get(id)
				c.Close(id)
			}
		}
		c.Len()
		c.Room()
	}
}
