package lcache

import (
	"math"
	"slices"
	"strconv"
	"strings"
	"testing"

	"socage/api"
	"socage/merge"
	"socage/name"
	"socage/shard"
)

// entries: so many, whose kind is a number by which they are told from others.
func entries(many, kind int) []merge.Entry {
	l := []merge.Entry{}
	for i := range many {
		l = append(l, merge.Entry{Name: "n" + strconv.Itoa(i), Kind: kind})
	}
	return l
}

// remembers: Look is true, and answers these.
func remembers(t *testing.T, c *Cache, epoch int, dir string, want []merge.Entry) {
	t.Helper()
	if l, ok := c.Look(epoch, dir); !ok || !slices.Equal(l, want) {
		t.Errorf("Look(%d, %.20q): %v, %v, not %v", epoch, dir, l, ok, want)
	}
}

// hasNone: Look is false, and answers none.
func hasNone(t *testing.T, c *Cache, epoch int, dir string) {
	t.Helper()
	if l, ok := c.Look(epoch, dir); ok || len(l) != 0 {
		t.Errorf("Look(%d, %.20q): %v, %v, not none", epoch, dir, l, ok)
	}
}

// keeps: Keep of these is true, or false.
func keeps(t *testing.T, c *Cache, epoch int, dir string, l []merge.Entry, want bool) {
	t.Helper()
	if ok := c.Keep(epoch, dir, l); ok != want {
		t.Errorf("Keep(%d, %.20q, %v): %v", epoch, dir, l, ok)
	}
}

// takes: Take answers these, and asks what is handed in as often as it is said, of which it answers the second.
func takes(t *testing.T, c *Cache, epoch int, dir string, made, want []merge.Entry, often int) {
	t.Helper()
	asked, before := 0, c.Made()
	l := c.Take(epoch, dir, func() []merge.Entry {
		asked++
		return made
	})
	if !slices.Equal(l, want) || asked != often || c.Made() != before+often {
		t.Errorf("Take(%d, %.20q): %v, not %v; asked %d times, not %d; Made %d, then %d", epoch, dir, l, want, asked, often, before, c.Made())
	}
}

// TestExamples: P16.3: the chapter's example, written out.
func TestExamples(t *testing.T) {
	c := New(1, 1)
	takes(t, c, 1, "/a", entries(2, 1), entries(2, 1), 1)
	takes(t, c, 1, "/a", entries(3, 2), entries(2, 1), 0)
	if c.Made() != 1 {
		t.Error("Made:", c.Made())
	}
}

// TestNew: P16.1: so many shards, one at least, 256 at most; nothing is remembered, and nothing was made.
func TestNew(t *testing.T) {
	for _, x := range []struct{ many, want int }{
		{math.MinInt, 1}, {-1, 1}, {0, 1}, {1, 1}, {2, 2}, {3, 3}, {255, 255}, {256, 256}, {257, 256}, {1 << 32, 256}, {math.MaxInt, 256},
	} {
		c := New(x.many, 3)
		if c.Many() != x.want || c.Most() != 0 || c.Made() != 0 {
			t.Error("New of", x.many, c.Many(), c.Most(), c.Made())
		}
		for i := range x.want {
			if c.Len(i) != 0 {
				t.Error("Len of", i, "among", x.many, c.Len(i))
			}
		}
		for _, dir := range []string{"/", "/a"} {
			hasNone(t, c, 0, dir)
		}
	}
}

// TestRoom: P16.1: each shard has room for so many directories, one at least: at it, and one beyond it.
func TestRoom(t *testing.T) {
	for _, x := range []struct{ room, want int }{{math.MinInt, 1}, {-1, 1}, {0, 1}, {1, 1}, {2, 2}, {3, 3}, {40, 40}, {math.MaxInt, 60}} {
		c := New(1, x.room)
		for i := range x.want {
			keeps(t, c, 1, "/"+strconv.Itoa(i), entries(i, 1), true)
			if c.Len(0) != i+1 || c.Most() != i+1 {
				t.Error("Keep of", i, "in room for", x.room, c.Len(0), c.Most())
			}
		}
		if x.room > x.want {
			continue
		}
		keeps(t, c, 1, "/more", entries(1, 2), true)
		if c.Len(0) != x.want || c.Most() != x.want {
			t.Error("Keep beyond room for", x.room, c.Len(0), c.Most())
		}
		hasNone(t, c, 1, "/0")
		remembers(t, c, 1, "/more", entries(1, 2))
		for i := 1; i < x.want; i++ {
			remembers(t, c, 1, "/"+strconv.Itoa(i), entries(i, 1))
		}
	}
}

// TestOf: P16.1: the shard is that of the path; what is kept is there, and nowhere else.
func TestOf(t *testing.T) {
	for _, many := range []int{1, 2, 3, 7, 255, 256} {
		c := New(many, 1000)
		want := make([]int, many)
		for _, dir := range []string{"/", "/a", "/b", "/a/b", "/b/a", "/a/b/c", "/\xff", "/" + strings.Repeat("d", name.MaxName), strings.Repeat("/e", name.MaxPath/2)} {
			at := c.Of(dir)
			if at != int(shard.Sum(dir)%uint32(many)) {
				t.Errorf("Of(%.20q) among %d: %d", dir, many, at)
			}
			want[at]++
			takes(t, c, 1, dir, nil, nil, 1)
			keeps(t, c, 1, dir, nil, true)
		}
		for i := range many {
			if c.Len(i) != want[i] {
				t.Error("Len of", i, "among", many, c.Len(i), "not", want[i])
			}
		}
		if c.Most() != slices.Max(want) {
			t.Error("Most among", many, c.Most(), "not", slices.Max(want))
		}
	}
}

// TestLen: P16.1: 0, if there is no such shard.
func TestLen(t *testing.T) {
	for _, many := range []int{1, 2, 256} {
		c := New(many, 9)
		for i := range 4000 {
			c.Keep(0, "/"+strconv.Itoa(i), nil)
		}
		for _, x := range []struct{ i, want int }{
			{math.MinInt, 0}, {-many, 0}, {-1, 0}, {0, 9}, {many - 1, 9}, {many, 0}, {many + 1, 0}, {1 << 32, 0}, {math.MaxInt, 0},
		} {
			if n := c.Len(x.i); n != x.want {
				t.Error("Len of", x.i, "among", many, n)
			}
		}
	}
}

// TestEntries: P16.2: what is remembered is all of a list, in its order, also that nothing is in it.
func TestEntries(t *testing.T) {
	all := [][]merge.Entry{
		nil, {}, entries(1, api.File), {{Name: "b", Kind: api.Dir}, {Name: "a", Kind: api.Link}, {Name: "b", Kind: api.Dir}}, entries(5000, api.Dir), {{}}, {{Name: "\x00/\xff", Kind: -3}, {Kind: math.MaxInt}},
	}
	c := New(3, 100)
	for i, l := range all {
		keeps(t, c, 4, "/"+strconv.Itoa(i), l, true)
	}
	for range 2 {
		for i, l := range all {
			remembers(t, c, 4, "/"+strconv.Itoa(i), l)
			takes(t, c, 4, "/"+strconv.Itoa(i), entries(2, 99), l, 0)
		}
	}
	if c.Made() != 0 {
		t.Error("Made:", c.Made())
	}
}

// TestDirs: P16.2: another directory is another key, whatever its epoch.
func TestDirs(t *testing.T) {
	c := New(4, 100)
	dirs := []string{"/", "/a", "/b", "/ab", "/a/b", "/b/a", "/a/b/c", "/A", "/a "}
	for i, dir := range dirs {
		for _, none := range dirs[i:] {
			hasNone(t, c, 1, none)
		}
		keeps(t, c, 1, dir, entries(i, i), true)
		for j, there := range dirs[:i+1] {
			remembers(t, c, 1, there, entries(j, j))
		}
	}
	keeps(t, c, 2, "/a", nil, true)
	hasNone(t, c, 1, "/a")
	remembers(t, c, 2, "/a", nil)
	remembers(t, c, 1, "/", entries(0, 0))
	remembers(t, c, 1, "/a/b", entries(4, 4))
	keeps(t, c, 0, "/c", nil, true)
}

// TestEpochs: P16.2, P16.3: Look answers what is of the epoch asked for alone; Keep, and Take, put what they have in the place of an elder list, or one as old, not of a younger one.
func TestEpochs(t *testing.T) {
	epochs := []int{math.MinInt, math.MinInt + 1, -1 << 32, -2, -1, 0, 1, 2, 3, 1 << 32, 1<<32 + 1, math.MaxInt - 1, math.MaxInt}
	for _, first := range epochs {
		for _, next := range epochs {
			c, d := New(2, 2), New(2, 2)
			keeps(t, c, first, "/a", entries(2, 1), true)
			takes(t, d, first, "/a", entries(2, 1), entries(2, 1), 1)
			epoch, now, taken := first, entries(2, 1), entries(2, 1)
			if next >= first {
				epoch, now = next, entries(3, 2)
			}
			keeps(t, c, next, "/a", entries(3, 2), next >= first)
			if next == first {
				takes(t, d, next, "/a", entries(3, 2), taken, 0)
			} else {
				takes(t, d, next, "/a", entries(3, 2), entries(3, 2), 1)
			}
			if next > first {
				taken = entries(3, 2)
			}
			if c.Len(c.Of("/a")) != 1 || c.Most() != 1 || d.Most() != 1 {
				t.Error("Len, Most:", c.Len(c.Of("/a")), c.Most(), d.Most())
			}
			for _, e := range epochs {
				if e == epoch {
					remembers(t, c, e, "/a", now)
					remembers(t, d, e, "/a", taken)
				} else {
					hasNone(t, c, e, "/a")
					hasNone(t, d, e, "/a")
				}
			}
		}
	}
}

// TestTake: P16.3: what is remembered isn't made; what isn't is made once, and kept but where something younger is.
func TestTake(t *testing.T) {
	c := New(1, 2)
	takes(t, c, 1, "/a", entries(1, 1), entries(1, 1), 1)
	takes(t, c, 1, "/b", nil, nil, 1)
	for range 3 {
		takes(t, c, 1, "/a", entries(1, 9), entries(1, 1), 0)
		takes(t, c, 1, "/b", entries(1, 9), nil, 0)
	}
	// A younger epoch's takes the place of what there was.
	takes(t, c, 3, "/a", entries(2, 3), entries(2, 3), 1)
	remembers(t, c, 3, "/a", entries(2, 3))
	// An elder one's is answered, not kept, and made again each time.
	for i := range 3 {
		takes(t, c, 2, "/a", entries(1, i), entries(1, i), 1)
		hasNone(t, c, 2, "/a")
		remembers(t, c, 3, "/a", entries(2, 3))
	}
	if c.Made() != 6 || c.Len(0) != 2 {
		t.Error("Made, Len:", c.Made(), c.Len(0))
	}
	// What went for another is made again.
	takes(t, c, 3, "/c", nil, nil, 1)
	hasNone(t, c, 1, "/b")
	takes(t, c, 1, "/b", entries(4, 1), entries(4, 1), 1)
	hasNone(t, c, 3, "/a")
	if c.Made() != 8 {
		t.Error("Made:", c.Made())
	}
}

// TestTakeWithin: P16.3: what make does with the Cache holds, as if it was done ahead of the Keep.
func TestTakeWithin(t *testing.T) {
	for _, x := range []struct {
		epoch, made int
		now         []merge.Entry
	}{{0, 1, entries(1, 1)}, {1, 1, entries(1, 1)}, {2, 1, entries(3, 3)}} {
		c := New(1, 3)
		inside := 0
		l := c.Take(1, "/a", func() []merge.Entry {
			inside = c.Made()
			hasNone(t, c, 1, "/a")
			takes(t, c, 1, "/b", entries(2, 2), entries(2, 2), 1)
			keeps(t, c, x.epoch, "/a", entries(3, 3), true)
			return entries(1, 1)
		})
		if !slices.Equal(l, entries(1, 1)) || inside != 1 || c.Made() != 2 || c.Len(0) != 2 {
			t.Error("Take:", l, inside, c.Made(), c.Len(0))
		}
		remembers(t, c, max(x.epoch, 1), "/a", x.now)
		remembers(t, c, 1, "/b", entries(2, 2))
	}
}

// TestNotMade: P1, P16.3: a make that answers nothing, as it panics or is none, leaves nothing to be kept; one that panics was asked.
func TestNotMade(t *testing.T) {
	c := New(1, 2)
	keeps(t, c, 1, "/b", entries(2, 2), true)
	keeps(t, c, 1, "/a", entries(1, 1), true)
	asked := 0
	for i, fault := range []any{"x", 1, nil, error(api.EINVAL)} {
		for _, dir := range []string{"/x", "/a"} {
			if l := c.Take(2, dir, func() []merge.Entry { asked++; panic(fault) }); len(l) != 0 || asked != c.Made() {
				t.Error("Take:", l, asked, c.Made())
			}
			if l := c.Take(2, dir, nil); len(l) != 0 {
				t.Error("Take of no make:", l)
			}
			hasNone(t, c, 2, dir)
		}
		if asked != 2*i+2 || c.Made() != asked {
			t.Error("Made:", asked, c.Made())
		}
	}
	if l := c.Take(1, "/a", nil); !slices.Equal(l, entries(1, 1)) || c.Made() != asked {
		t.Error("Take of what is remembered, of no make:", l)
	}
	remembers(t, c, 1, "/b", entries(2, 2))
	if c.Len(0) != 2 {
		t.Error("Len:", c.Len(0))
	}
}

// full: a Cache with room for three, and as many directories in it: a, b, c, each used after the one ahead.
func full() *Cache {
	c := New(1, 3)
	for i, dir := range []string{"/a", "/b", "/c"} {
		c.Keep(5, dir, entries(i, i))
	}
	return c
}

// order: which of a, b, c and d go, in which order, after what was done.
func order(do func(c *Cache)) string {
	var gone string
	for more := range 3 {
		for _, s := range []string{"a", "b", "c", "d"} {
			if there(do, more, s) && !there(do, more+1, s) {
				gone += s
			}
		}
	}
	return gone
}

// there: whether a directory is remembered, after what was done, and so many more that were kept.
func there(do func(c *Cache), more int, s string) bool {
	c := full()
	do(c)
	for i := range more {
		c.Keep(5, "/new"+strconv.Itoa(i), nil)
	}
	// Whatever is there is of a later epoch.
	return !c.Keep(math.MinInt, "/"+s, nil)
}

// TestUsed: P16.2, P16.3: Look uses the key, whether it is of that epoch or not, and so does a Keep, true or false, and Take with them; what isn't there isn't used.
func TestUsed(t *testing.T) {
	none := func() []merge.Entry { return nil }
	for _, x := range []struct {
		what string
		do   func(c *Cache)
		want string // what goes first, next, last
	}{
		{"nothing", func(c *Cache) {}, "abc"},
		{"Look", func(c *Cache) { c.Look(5, "/a") }, "bca"},
		{"Look of an elder epoch", func(c *Cache) { c.Look(4, "/a") }, "bca"},
		{"Look of a later epoch", func(c *Cache) { c.Look(6, "/b") }, "acb"},
		{"Look of what isn't there", func(c *Cache) { c.Look(5, "/x"); c.Look(5, "/a/a") }, "abc"},
		{"two Looks", func(c *Cache) { c.Look(5, "/b"); c.Look(9, "/a") }, "cba"},
		{"Keep", func(c *Cache) { c.Keep(5, "/a", nil) }, "bca"},
		{"Keep of a later epoch", func(c *Cache) { c.Keep(6, "/b", nil) }, "acb"},
		{"Keep of an elder epoch", func(c *Cache) { c.Keep(4, "/a", nil) }, "bca"},
		{"Keeps of an elder epoch", func(c *Cache) { c.Keep(4, "/b", nil); c.Keep(math.MinInt, "/a", nil) }, "cba"},
		{"Keep of one more", func(c *Cache) { c.Keep(5, "/d", nil) }, "bcd"},
		{"Take", func(c *Cache) { c.Take(5, "/a", none) }, "bca"},
		{"Take of an elder epoch", func(c *Cache) { c.Take(4, "/a", none) }, "bca"},
		{"Take of a later epoch", func(c *Cache) { c.Take(6, "/b", none) }, "acb"},
		{"Take of one more", func(c *Cache) { c.Take(5, "/d", none) }, "bcd"},
		{"what asks alone", func(c *Cache) { c.Of("/a"); c.Made(); c.Many(); c.Len(0); c.Most() }, "abc"},
	} {
		if got := order(x.do); got != x.want {
			t.Errorf("%s: %s go, not %s", x.what, got, x.want)
		}
	}
}

// plain is what the chapter says of a Cache, in one list, that which was used last first.
type plain struct {
	many, room int
	l          []kept
	made       int
}

// kept is what is remembered of a path.
type kept struct {
	dir     string
	epoch   int
	entries []merge.Entry
}

func (p *plain) of(dir string) int { return int(shard.Sum(dir) % uint32(p.many)) }

func (p *plain) len(shard int) int {
	n := 0
	for _, x := range p.l {
		if p.of(x.dir) == shard {
			n++
		}
	}
	return n
}

// use: what is remembered of a path, which is the first one then.
func (p *plain) use(dir string) (kept, bool) {
	i := slices.IndexFunc(p.l, func(x kept) bool { return x.dir == dir })
	if i < 0 {
		return kept{}, false
	}
	x := p.l[i]
	p.l = slices.Insert(slices.Delete(p.l, i, i+1), 0, x)
	return x, true
}

func (p *plain) Look(epoch int, dir string) ([]merge.Entry, bool) {
	if x, ok := p.use(dir); ok && x.epoch == epoch {
		return x.entries, true
	}
	return nil, false
}

func (p *plain) Keep(epoch int, dir string, l []merge.Entry) bool {
	x, ok := p.use(dir)
	if ok && x.epoch > epoch {
		return false
	}
	if ok {
		p.l = p.l[1:]
	}
	if at := p.of(dir); p.len(at) >= max(p.room, 1) {
		last := len(p.l) - 1
		for p.of(p.l[last].dir) != at {
			last--
		}
		p.l = slices.Delete(p.l, last, last+1)
	}
	p.l = slices.Insert(p.l, 0, kept{dir: dir, epoch: epoch, entries: l})
	return true
}

func (p *plain) Take(epoch int, dir string, l []merge.Entry) []merge.Entry {
	if x, ok := p.Look(epoch, dir); ok {
		return x
	}
	p.made++
	p.Keep(epoch, dir, l)
	return l
}

// holds: a Cache has what the chapter says.
func holds(t *testing.T, c *Cache, p *plain) {
	t.Helper()
	most := 0
	for i := range p.many {
		n := p.len(i)
		if c.Len(i) != n {
			t.Fatal("Len of", i, c.Len(i), "not", n)
		}
		most = max(most, n)
	}
	if c.Many() != p.many || c.Most() != most || c.Made() != p.made {
		t.Fatal("Many, Most, Made:", c.Many(), c.Most(), c.Made(), "not", p.many, most, p.made)
	}
}

// TestPlain: P16.1, P16.2, P16.3: many calls, one behind the other, as the chapter says of each.
func TestPlain(t *testing.T) {
	for _, many := range []int{1, 2, 5, 256} {
		for _, room := range []int{math.MinInt, 0, 1, 2, 5, 1000} {
			c, p := New(many, room), &plain{many: many, room: room}
			for i := range 1500 {
				dir, epoch, l := "/d"+strconv.Itoa(i*i*i%23), i/100+i*i%3, entries(i%4, i)
				switch i % 5 {
				case 0, 3:
					got, ok := c.Look(epoch, dir)
					if want, is := p.Look(epoch, dir); ok != is || !slices.Equal(got, want) {
						t.Fatal("Look", epoch, dir, got, ok, "not", want, is)
					}
				case 1:
					ok := c.Keep(epoch, dir, l)
					if is := p.Keep(epoch, dir, l); ok != is {
						t.Fatal("Keep", epoch, dir, ok)
					}
				default:
					got := c.Take(epoch, dir, func() []merge.Entry { return l })
					if want := p.Take(epoch, dir, l); !slices.Equal(got, want) {
						t.Fatal("Take", epoch, dir, got, "not", want)
					}
				}
				if i%50 == 0 {
					holds(t, c, p)
				}
			}
			holds(t, c, p)
		}
	}
}

// TestHandedIn: P2: neither Keep nor Take changes or keeps the list that is handed in, or made, nor its spare room.
func TestHandedIn(t *testing.T) {
	for _, n := range []int{0, 1, 3} {
		room := entries(6, 1)
		c := New(1, 9)
		keeps(t, c, 1, "/a", room[:n], true)
		keeps(t, c, 0, "/a", room[:n], false)
		made := c.Take(1, "/b", func() []merge.Entry { return room[:n] })
		elder := c.Take(0, "/b", func() []merge.Entry { return room[:n] })
		kept, _ := c.Look(1, "/a")
		for _, l := range [][]merge.Entry{made, elder, kept} {
			if _ = append(l, merge.Entry{Name: "zz"}); !slices.Equal(room, entries(6, 1)) || !slices.Equal(l, entries(n, 1)) {
				t.Error("what was handed in, or its room, is answered, or was changed:", room, l)
			}
		}
		clear(room)
		for _, l := range [][]merge.Entry{made, elder, kept} {
			if !slices.Equal(l, entries(n, 1)) {
				t.Error("what was handed in is answered:", l)
			}
		}
		remembers(t, c, 1, "/a", entries(n, 1))
		remembers(t, c, 1, "/b", entries(n, 1))
	}
}

// TestAnswered: P2: what is answered shares nothing with another answer, or with what is kept.
func TestAnswered(t *testing.T) {
	c := New(1, 4)
	want := entries(3, 1)
	keeps(t, c, 1, "/a", want, true)
	for range 3 {
		first := c.Take(2, "/b", func() []merge.Entry { return want })
		again := c.Take(2, "/b", nil)
		x, _ := c.Look(1, "/a")
		y, _ := c.Look(1, "/a")
		z := c.Take(1, "/a", nil)
		all := [][]merge.Entry{first, again, x, y, z}
		for i, l := range all {
			if _ = append(l, merge.Entry{Name: "zz"}); !slices.Equal(l, want) {
				t.Error("answered:", l)
			}
			clear(l)
			for _, rest := range all[i+1:] {
				if !slices.Equal(rest, want) {
					t.Error("answers share memory:", rest)
				}
			}
		}
		remembers(t, c, 1, "/a", want)
		remembers(t, c, 2, "/b", want)
		// What was answered is handed in as another's, and changed then.
		l, _ := c.Look(1, "/a")
		keeps(t, c, 1, "/c", l, true)
		keeps(t, c, 1, "/a", l, true)
		l[0].Kind = 9
		remembers(t, c, 1, "/a", want)
		remembers(t, c, 1, "/c", want)
	}
}

// TestRefused: P2: what is false leaves what is remembered as it was.
func TestRefused(t *testing.T) {
	c := full()
	for range 3 {
		for i, dir := range []string{"/a", "/b", "/c"} {
			hasNone(t, c, 4, dir)
			keeps(t, c, 4, dir, entries(7, 7), false)
			hasNone(t, c, 4, dir)
			hasNone(t, c, 5, dir+dir)
			remembers(t, c, 5, dir, entries(i, i))
		}
		if c.Len(0) != 3 || c.Most() != 3 || c.Made() != 0 {
			t.Error("Len, Most, Made:", c.Len(0), c.Most(), c.Made())
		}
	}
}

// TestApart: P2: Caches have directories, and counts, of their own.
func TestApart(t *testing.T) {
	a, b := New(2, 2), New(2, 2)
	takes(t, a, 3, "/a", entries(2, 1), entries(2, 1), 1)
	hasNone(t, b, 3, "/a")
	takes(t, b, 1, "/a", nil, nil, 1)
	remembers(t, a, 3, "/a", entries(2, 1))
	remembers(t, b, 1, "/a", nil)
	keeps(t, b, 1, "/b", nil, true)
	if a.Most() != 1 || a.Len(0)+a.Len(1) != 1 || a.Made() != 1 || b.Made() != 1 {
		t.Error("Most, Len, Made:", a.Most(), a.Len(0), a.Len(1), a.Made(), b.Made())
	}
}

// TestAllArguments: P1: all calls end, and none panics, whatever the numbers and texts.
func TestAllArguments(t *testing.T) {
	numbers := []int{math.MinInt, -1 << 32, -1, 0, 1, 2, 255, 256, 257, 1 << 32, math.MaxInt}
	texts := []string{"", "a", "/", "//", ".", "..", "/a/", "a/b", "\x00", "\xff", "/a\xff\x00", strings.Repeat("/a", 1<<14)}
	makes := []func() []merge.Entry{nil, func() []merge.Entry { return nil }, func() []merge.Entry { return make([]merge.Entry, 3) }, func() []merge.Entry { panic("x") }}
	for _, many := range numbers {
		for _, room := range numbers {
			c := New(many, room)
			for i, dir := range texts {
				for j, epoch := range numbers {
					c.Look(epoch, dir)
					c.Take(epoch, dir, makes[(i+j)%len(makes)])
					c.Keep(epoch, dir, make([]merge.Entry, j))
					c.Take(epoch, dir, makes[i%len(makes)])
				}
				if at := c.Of(dir); at < 0 || at >= c.Many() || c.Len(at) < 1 {
					t.Errorf("Of(%.20q): %d", dir, at)
				}
			}
			for _, i := range numbers {
				c.Len(i)
			}
			c.Most()
			c.Made()
		}
	}
}
