package gate

import (
	"math"
	"slices"
	"testing"
)

// last is the greatest number of which something is promised.
const last = math.MaxInt32

// step is a call (r, w, l: Read, Write, Leave) of somebody, what it answers, and how many read, write and wait then.
type step struct {
	call                      byte
	id                        int
	ok                        bool
	readers, writers, waiting int
}

// do: a call, and what it answers.
func do(g *Gate, call byte, id int) bool {
	switch call {
	case 'r':
		return g.Read(id)
	case 'w':
		return g.Write(id)
	}
	return g.Leave(id)
}

// counted: so many read, write and wait.
func counted(t *testing.T, g *Gate, readers, writers, waiting int) {
	t.Helper()
	if g.Readers() != readers || g.Writers() != writers || g.Waiting() != waiting {
		t.Errorf("Readers, Writers, Waiting: %d, %d, %d, not %d, %d, %d", g.Readers(), g.Writers(), g.Waiting(), readers, writers, waiting)
	}
}

// play: the steps of a new Gate, one behind the other, answer what they say.
func play(t *testing.T, steps ...step) *Gate {
	t.Helper()
	g := &Gate{}
	for i, s := range steps {
		if ok := do(g, s.call, s.id); ok != s.ok {
			t.Errorf("step %d: %c(%d): %v", i, s.call, s.id, ok)
		}
		counted(t, g, s.readers, s.writers, s.waiting)
	}
	return g
}

// hasIn: these are in, of all who are asked for.
func hasIn(t *testing.T, g *Gate, ids ...int) {
	t.Helper()
	for _, id := range []int{0, 1, 2, 3, 4, 5, last - 1, last} {
		if g.In(id) != slices.Contains(ids, id) {
			t.Errorf("In(%d): %v", id, g.In(id))
		}
	}
}

// TestExamples: P17.1: the chapter's example, written out.
func TestExamples(t *testing.T) {
	g := play(t,
		step{'r', 1, true, 1, 0, 0},
		step{'w', 2, false, 1, 0, 1},
		step{'r', 3, false, 1, 0, 1})
	hasIn(t, g, 1)
}

// TestZero: P17.1, P17.2: the zero Gate has nobody: nobody can leave it, and anybody may come in.
func TestZero(t *testing.T) {
	g := &Gate{}
	counted(t, g, 0, 0, 0)
	hasIn(t, g)
	for _, id := range []int{0, 1, last} {
		play(t, step{'l', id, false, 0, 0, 0}, step{'r', id, true, 1, 0, 0}, step{'l', id, true, 0, 0, 0}, step{'l', id, false, 0, 0, 0})
		play(t, step{'l', id, false, 0, 0, 0}, step{'w', id, true, 0, 1, 0}, step{'l', id, true, 0, 0, 0}, step{'l', id, false, 0, 0, 0})
	}
}

// TestRead: P17.1: many may read, each of them once, and leave in whatever order.
func TestRead(t *testing.T) {
	g := play(t,
		step{'r', 1, true, 1, 0, 0},
		step{'r', 0, true, 2, 0, 0},
		step{'r', 1, false, 2, 0, 0},
		step{'r', last, true, 3, 0, 0},
		step{'r', 0, false, 3, 0, 0},
		step{'l', 2, false, 3, 0, 0},
		step{'l', 0, true, 2, 0, 0},
		step{'l', 0, false, 2, 0, 0},
		step{'r', 2, true, 3, 0, 0},
		step{'l', 1, true, 2, 0, 0},
		step{'r', 1, true, 3, 0, 0})
	hasIn(t, g, 1, 2, last)
}

// TestWrite: P17.1: who writes is in alone; others aren't let in, and those among them who want to write wait.
func TestWrite(t *testing.T) {
	g := play(t,
		step{'w', 5, true, 0, 1, 0},
		step{'w', 5, false, 0, 1, 0},
		step{'r', 5, false, 0, 1, 0},
		step{'r', 0, false, 0, 1, 0},
		step{'l', 0, false, 0, 1, 0},
		step{'w', 0, false, 0, 1, 1},
		step{'w', 0, false, 0, 1, 1},
		step{'w', 5, false, 0, 1, 1})
	hasIn(t, g, 5)
	// Who leaves, and wants to write again, waits behind those who do.
	play(t,
		step{'w', 5, true, 0, 1, 0},
		step{'w', 0, false, 0, 1, 1},
		step{'l', 5, true, 0, 0, 1},
		step{'w', 5, false, 0, 0, 2},
		step{'w', 0, true, 0, 1, 1},
		step{'l', 0, true, 0, 0, 1},
		step{'w', 5, true, 0, 1, 0})
}

// TestWhoReads: P17.1: who reads isn't let in to write, and doesn't wait for it.
func TestWhoReads(t *testing.T) {
	g := play(t,
		step{'r', 1, true, 1, 0, 0},
		step{'w', 1, false, 1, 0, 0},
		step{'r', 2, true, 2, 0, 0},
		step{'w', 3, false, 2, 0, 1},
		step{'w', 2, false, 2, 0, 1},
		step{'l', 1, true, 1, 0, 1},
		step{'w', 3, false, 1, 0, 1},
		step{'l', 2, true, 0, 0, 1},
		step{'w', 3, true, 0, 1, 0})
	hasIn(t, g, 3)
}

// TestWaits: P17.1: while somebody waits, nobody comes in to read, not the one who waits either; also where nobody is in any more.
func TestWaits(t *testing.T) {
	g := play(t,
		step{'r', 1, true, 1, 0, 0},
		step{'w', 2, false, 1, 0, 1},
		step{'r', 2, false, 1, 0, 1},
		step{'r', 3, false, 1, 0, 1},
		step{'l', 2, false, 1, 0, 1},
		step{'l', 1, true, 0, 0, 1},
		step{'r', 1, false, 0, 0, 1},
		step{'r', 2, false, 0, 0, 1},
		step{'l', 2, false, 0, 0, 1},
		step{'w', 2, true, 0, 1, 0},
		step{'r', 1, false, 0, 1, 0},
		step{'l', 2, true, 0, 0, 0},
		step{'r', 1, true, 1, 0, 0},
		step{'r', 2, true, 2, 0, 0})
	hasIn(t, g, 1, 2)
}

// TestTurns: P17.1: who came first is let in first, whoever asks, and however often.
func TestTurns(t *testing.T) {
	play(t,
		step{'r', 9, true, 1, 0, 0},
		step{'w', 3, false, 1, 0, 1},
		step{'w', 0, false, 1, 0, 2},
		step{'w', last, false, 1, 0, 3},
		step{'w', 3, false, 1, 0, 3},
		step{'l', 9, true, 0, 0, 3},
		step{'w', last, false, 0, 0, 3},
		step{'w', 0, false, 0, 0, 3},
		step{'w', 7, false, 0, 0, 4},
		step{'w', 3, true, 0, 1, 3},
		step{'w', 0, false, 0, 1, 3},
		step{'w', 3, false, 0, 1, 3},
		step{'l', 3, true, 0, 0, 3},
		step{'w', 3, false, 0, 0, 4},
		step{'w', last, false, 0, 0, 4},
		step{'w', 0, true, 0, 1, 3},
		step{'l', 0, true, 0, 0, 3},
		step{'w', 7, false, 0, 0, 3},
		step{'w', last, true, 0, 1, 2},
		step{'l', last, true, 0, 0, 2},
		step{'w', 3, false, 0, 0, 2},
		step{'w', 7, true, 0, 1, 1},
		step{'l', 7, true, 0, 0, 1},
		step{'r', 9, false, 0, 0, 1},
		step{'w', 3, true, 0, 1, 0},
		step{'l', 3, true, 0, 0, 0},
		step{'r', 9, true, 1, 0, 0})
}

// plain is what the chapter says of a Gate, in lists.
type plain struct{ readers, writers, waits []int }

func (p *plain) in(id int) bool {
	return slices.Contains(p.readers, id) || slices.Contains(p.writers, id)
}

func (p *plain) do(call byte, id int) bool {
	switch call {
	case 'r':
		if p.in(id) || len(p.writers) > 0 || len(p.waits) > 0 {
			return false
		}
		p.readers = append(p.readers, id)
		return true
	case 'w':
		if p.in(id) {
			return false
		}
		if !slices.Contains(p.waits, id) {
			p.waits = append(p.waits, id)
		}
		if p.waits[0] != id || len(p.readers) > 0 || len(p.writers) > 0 {
			return false
		}
		p.waits = p.waits[1:]
		p.writers = append(p.writers, id)
		return true
	}
	was := p.in(id)
	is := func(x int) bool { return x == id }
	p.readers = slices.DeleteFunc(p.readers, is)
	p.writers = slices.DeleteFunc(p.writers, is)
	return was
}

// both: a call of a Gate answers what the chapter says, and leaves what it says.
func both(t *testing.T, g *Gate, p *plain, call byte, id int, ids []int) {
	t.Helper()
	want := p.do(call, id)
	if ok := do(g, call, id); ok != want {
		t.Fatalf("%c(%d): %v; %v", call, id, ok, p)
	}
	for _, x := range ids {
		if g.In(x) != p.in(x) {
			t.Fatalf("In(%d) after %c(%d): %v; %v", x, call, id, g.In(x), p)
		}
	}
	if g.Readers() != len(p.readers) || g.Writers() != len(p.writers) || g.Waiting() != len(p.waits) {
		t.Fatalf("Readers, Writers, Waiting after %c(%d): %d, %d, %d; %v", call, id, g.Readers(), g.Writers(), g.Waiting(), p)
	}
}

// TestAllShort: P17.1, P17.2: all rows of six calls of three.
func TestAllShort(t *testing.T) {
	ids := []int{0, 1, last}
	for row := range 9 * 9 * 9 * 9 * 9 * 9 {
		g, p := &Gate{}, &plain{}
		for range 6 {
			both(t, g, p, "rwl"[row%3], ids[row/3%3], ids)
			row /= 9
		}
	}
}

// TestPlain: P17.1, P17.2: long rows of calls of many, in which some read most of the time, and some write.
func TestPlain(t *testing.T) {
	var ids []int
	for i := range 20 {
		ids = append(ids, i*i*i)
	}
	for seed := range uint32(30) {
		g, p := &Gate{}, &plain{}
		for range 2000 {
			seed = seed*1664525 + 1013904223
			call := "rrrlllw"[seed>>8%7]
			if seed&(1<<31) != 0 {
				call = "rwwllll"[seed>>8%7]
			}
			both(t, g, p, call, ids[seed>>16%20], ids)
		}
	}
}

// TestMany: P17.1, P17.2: a great many read, and a great many wait, each for their turn.
func TestMany(t *testing.T) {
	const many = 100_000
	g := &Gate{}
	for i := range many {
		if !g.Read(i) {
			t.Fatal("Read of", i)
		}
	}
	for i := range many {
		if g.Write(last - i) {
			t.Fatal("Write of", last-i)
		}
	}
	counted(t, g, many, 0, many)
	for i := range many {
		if g.Write(last) || !g.Leave(i) || g.In(i) {
			t.Fatal("Leave of", i)
		}
	}
	counted(t, g, 0, 0, many)
	for i := range many {
		if i+1 < many && g.Write(last-i-1) || !g.Write(last-i) || !g.Leave(last-i) {
			t.Fatal("Write of", last-i)
		}
	}
	counted(t, g, 0, 0, 0)
}

// TestRefused: P2: what is refused leaves the Gate as it was.
func TestRefused(t *testing.T) {
	refuse := func(g *Gate, ids ...int) {
		t.Helper()
		for _, id := range ids {
			if g.Read(id) || g.Leave(id) {
				t.Error("Read, Leave of", id)
			}
		}
	}
	g := play(t, step{'r', 1, true, 1, 0, 0}, step{'r', 2, true, 2, 0, 0}, step{'w', 3, false, 2, 0, 1})
	refuse(g, 0, 3, 4, last)
	if g.Read(1) || g.Write(1) || g.Read(2) || g.Write(2) {
		t.Error("Read, Write of who reads")
	}
	counted(t, g, 2, 0, 1)
	hasIn(t, g, 1, 2)
	g = play(t, step{'w', 1, true, 0, 1, 0}, step{'w', 3, false, 0, 1, 1})
	refuse(g, 0, 3, 4, last)
	if g.Read(1) || g.Write(1) {
		t.Error("Read, Write of who writes")
	}
	counted(t, g, 0, 1, 1)
	hasIn(t, g, 1)
	// It is still 3's turn.
	if !g.Leave(1) || g.Write(1) || !g.Write(3) {
		t.Error("turns")
	}
}

// TestApart: P2: Gates have people of their own.
func TestApart(t *testing.T) {
	var a, b Gate
	if !a.Read(1) || a.Write(2) || !b.Write(1) || b.Write(3) {
		t.Error("Read, Write")
	}
	counted(t, &a, 1, 0, 1)
	counted(t, &b, 0, 1, 1)
	if !a.Leave(1) || !a.Write(2) || b.Leave(2) || !b.Leave(1) || b.Write(2) || !b.Write(3) {
		t.Error("Leave, Write")
	}
	hasIn(t, &a, 2)
	hasIn(t, &b, 3)
}

// TestAllArguments: P1: all calls end, and none panics, whatever the numbers.
func TestAllArguments(t *testing.T) {
	numbers := []int{math.MinInt, -1 << 32, -1 << 31, -2, -1, 0, 1, last, last + 1, 1 << 32, math.MaxInt}
	g := &Gate{}
	for range 3 {
		for _, a := range numbers {
			for _, b := range numbers {
				for _, call := range []byte("rwlwlr") {
					do(g, call, a)
					g.In(b)
					do(g, call, b)
					g.Readers()
					g.Writers()
					g.Waiting()
				}
			}
		}
	}
}
