package dcache

import (
	"math"
	"slices"
	"strconv"
	"strings"
	"testing"

	"socage/api"
	"socage/name"
	"socage/seen"
	"socage/shard"
)

// like: two Entries say the same.
func like(a, b Entry) bool {
	return a.Epoch == b.Epoch && a.There == b.There && a.Target == b.Target && a.Found.Kind == b.Found.Kind && a.Found.Spot == b.Found.Spot && slices.Equal(a.Found.Dirs, b.Found.Dirs)
}

// Entries of an epoch: nothing, a file, a link, and a directory that is one with another.
func nothing(epoch int) Entry { return Entry{Epoch: epoch} }

func file(epoch, inode int) Entry {
	return Entry{Epoch: epoch, There: true, Found: seen.Found{Kind: api.File, Spot: seen.Spot{Level: 1, Inode: inode}}}
}

func link(epoch int, target string) Entry {
	return Entry{Epoch: epoch, There: true, Found: seen.Found{Kind: api.Link, Spot: seen.Spot{Inode: 3}}, Target: target}
}

func dir(epoch, inode int) Entry {
	at := seen.Spot{Inode: inode}
	return Entry{Epoch: epoch, There: true, Found: seen.Found{Kind: api.Dir, Spot: at, Dirs: seen.Place{at, {Level: 1, Inode: 7}}}}
}

// remembers: Look is true, and answers that Entry.
func remembers(t *testing.T, c *Cache, dir, s string, want Entry) {
	t.Helper()
	if e, ok := c.Look(want.Epoch, dir, s); !ok || !like(e, want) {
		t.Errorf("Look(%d, %.20q, %.20q): %v, %v, not %v", want.Epoch, dir, s, e, ok, want)
	}
}

// hasNone: Look is false, and answers the zero Entry.
func hasNone(t *testing.T, c *Cache, epoch int, dir, s string) {
	t.Helper()
	if e, ok := c.Look(epoch, dir, s); ok || !like(e, Entry{}) || e.Found.Dirs != nil {
		t.Errorf("Look(%d, %.20q, %.20q): %v, %v, not none", epoch, dir, s, e, ok)
	}
}

// counted: Counts answers these.
func counted(t *testing.T, c *Cache, hits, misses int) {
	t.Helper()
	if h, m := c.Counts(); h != hits || m != misses {
		t.Error("Counts:", h, m, "not", hits, misses)
	}
}

// TestExamples: P15.2: the chapter's example, written out.
func TestExamples(t *testing.T) {
	c := New(1, 1)
	if !c.Keep("/", "a", file(1, 4)) {
		t.Error("Keep")
	}
	hasNone(t, c, 2, "/", "a")
	remembers(t, c, "/", "a", file(1, 4))
	counted(t, c, 1, 1)
}

// TestNew: P15.1: so many shards, one at least, 256 at most; nothing is remembered, and nothing was asked for.
func TestNew(t *testing.T) {
	for _, x := range []struct{ many, want int }{
		{math.MinInt, 1}, {-1, 1}, {0, 1}, {1, 1}, {2, 2}, {3, 3}, {255, 255}, {256, 256}, {257, 256}, {1 << 32, 256}, {math.MaxInt, 256},
	} {
		c := New(x.many, 3)
		if c.Many() != x.want || c.Most() != 0 {
			t.Error("New of", x.many, c.Many(), c.Most())
		}
		for i := range x.want {
			if c.Len(i) != 0 {
				t.Error("Len of", i, "among", x.many, c.Len(i))
			}
		}
		counted(t, c, 0, 0)
		for _, s := range []string{"a", "b"} {
			hasNone(t, c, 0, "/", s)
		}
	}
}

// TestRoom: P15.1: each shard has room for so many names, one at least: at it, and one beyond it.
func TestRoom(t *testing.T) {
	for _, x := range []struct{ room, want int }{{math.MinInt, 1}, {-1, 1}, {0, 1}, {1, 1}, {2, 2}, {3, 3}, {40, 40}, {math.MaxInt, 60}} {
		c := New(1, x.room)
		for i := range x.want {
			if !c.Keep("/d", strconv.Itoa(i), file(1, i)) || c.Len(0) != i+1 || c.Most() != i+1 {
				t.Error("Keep of", i, "in room for", x.room, c.Len(0), c.Most())
			}
		}
		if x.room > x.want {
			continue
		}
		if !c.Keep("/d", "more", link(1, "x")) || c.Len(0) != x.want || c.Most() != x.want {
			t.Error("Keep beyond room for", x.room, c.Len(0), c.Most())
		}
		hasNone(t, c, 1, "/d", "0")
		remembers(t, c, "/d", "more", link(1, "x"))
		for i := 1; i < x.want; i++ {
			remembers(t, c, "/d", strconv.Itoa(i), file(1, i))
		}
	}
}

// TestShard: P15.1: the shard is that of the key, which is the name's path; what is kept is there, and nowhere else.
func TestShard(t *testing.T) {
	for _, many := range []int{1, 2, 3, 7, 255, 256} {
		c := New(many, 1000)
		want := make([]int, many)
		for _, d := range []string{"/", "/a", "/b", "/a/b", "/a/b/c", "/\xff", "/" + strings.Repeat("d", name.MaxName)} {
			for _, s := range []string{"a", "b", "c", "..x", "\x01", "\xff", strings.Repeat("n", name.MaxName)} {
				path := d + "/" + s
				if d == "/" {
					path = "/" + s
				}
				at := c.Shard(d, s)
				if at != int(shard.Sum(path)%uint32(many)) {
					t.Errorf("Shard(%.20q, %.20q) among %d: %d", d, s, many, at)
				}
				want[at]++
				if !c.Keep(d, s, nothing(1)) {
					t.Error("Keep")
				}
			}
		}
		for i := range many {
			if c.Len(i) != want[i] {
				t.Error("Len of", i, "among", many, c.Len(i), "not", want[i])
			}
		}
		if c.Most() != slices.Max(want) {
			t.Error("Most among", many, c.Most(), "not", slices.Max(want))
		}
	}
}

// TestLen: P15.1: 0, if there is no such shard.
func TestLen(t *testing.T) {
	for _, many := range []int{1, 2, 256} {
		c := New(many, 9)
		for i := range 4000 {
			c.Keep("/", strconv.Itoa(i), nothing(0))
		}
		for _, x := range []struct{ i, want int }{
			{math.MinInt, 0}, {-many, 0}, {-1, 0}, {0, 9}, {many - 1, 9}, {many, 0}, {many + 1, 0}, {1 << 32, 0}, {math.MaxInt, 0},
		} {
			if n := c.Len(x.i); n != x.want {
				t.Error("Len of", x.i, "among", many, n)
			}
		}
	}
}

// TestKinds: P15.2: what is remembered is the whole Entry, also that nothing was seen.
func TestKinds(t *testing.T) {
	all := []Entry{
		{}, nothing(1), nothing(-5), file(1, 0), file(2, 9), link(1, "../x"), link(0, ""), link(3, "a\x00\xff"), dir(1, 0), dir(math.MaxInt, 4), dir(math.MinInt, 4),
		{There: true}, {Target: "x"}, {Found: seen.Found{Kind: 9, Spot: seen.Spot{Level: -1, Inode: -2}, Dirs: seen.Place{{}}}},
		{There: true, Found: seen.Found{Kind: api.Dir, Dirs: make(seen.Place, 64)}},
	}
	c := New(3, 100)
	for i, e := range all {
		if !c.Keep("/d", strconv.Itoa(i), e) {
			t.Error("Keep", e)
		}
	}
	for range 2 {
		for i, e := range all {
			remembers(t, c, "/d", strconv.Itoa(i), e)
		}
	}
	counted(t, c, 2*len(all), 0)
}

// TestEpochs: P15.2: Look answers what is of the epoch asked for alone; Keep puts an Entry in the place of an elder one, or one as old, not of a younger one.
func TestEpochs(t *testing.T) {
	epochs := []int{math.MinInt, math.MinInt + 1, -1 << 32, -2, -1, 0, 1, 2, 3, 1 << 32, 1<<32 + 1, math.MaxInt - 1, math.MaxInt}
	for _, first := range epochs {
		for _, next := range epochs {
			c := New(2, 2)
			if !c.Keep("/a", "b", dir(first, 1)) {
				t.Error("Keep of epoch", first)
			}
			now := dir(first, 1)
			if ok := c.Keep("/a", "b", file(next, 2)); ok != (next >= first) {
				t.Error("Keep of epoch", next, "after", first, ok)
			} else if ok {
				now = file(next, 2)
			}
			if n := c.Len(c.Shard("/a", "b")); n != 1 || c.Most() != 1 {
				t.Error("Len, Most:", n, c.Most())
			}
			for i, epoch := range epochs {
				if epoch == now.Epoch {
					remembers(t, c, "/a", "b", now)
					counted(t, c, 1, i)
				} else {
					hasNone(t, c, epoch, "/a", "b")
				}
			}
			counted(t, c, 1, len(epochs)-1)
		}
	}
}

// TestPlaces: P15.2: a name in another directory, or another name in this one, is another key.
func TestPlaces(t *testing.T) {
	c := New(4, 100)
	places := [][2]string{{"/", "a"}, {"/", "b"}, {"/", "ab"}, {"/a", "a"}, {"/a", "b"}, {"/b", "a"}, {"/ab", "c"}, {"/a", "bc"}, {"/a/b", "c"}, {"/a/b/c", "a"}, {"/A", "a"}, {"/", "a "}}
	for i, x := range places {
		for _, y := range places[i:] {
			hasNone(t, c, 1, y[0], y[1])
		}
		if !c.Keep(x[0], x[1], file(1, i)) {
			t.Error("Keep", x)
		}
		for j, y := range places[:i+1] {
			remembers(t, c, y[0], y[1], file(1, j))
		}
	}
	// A later epoch of one name is of no matter to the others.
	c.Keep("/a", "b", nothing(2))
	hasNone(t, c, 1, "/a", "b")
	remembers(t, c, "/a", "b", nothing(2))
	if c.Keep("/b", "a", nothing(0)) {
		t.Error("Keep of an elder epoch")
	}
	remembers(t, c, "/b", "a", file(1, 5))
	if !c.Keep("/b", "b", nothing(0)) {
		t.Error("Keep of an elder epoch, of another name")
	}
}

// full: a Cache with room for three, and as many names of the root in it: a, b, c, each used after the one ahead.
func full() *Cache {
	c := New(1, 3)
	for i, s := range []string{"a", "b", "c"} {
		c.Keep("/", s, file(5, i))
	}
	return c
}

// order: which of a, b, c and d go, in which order, after what was done.
func order(do func(c *Cache)) string {
	var gone string
	for more := range 3 {
		for _, s := range []string{"a", "b", "c", "d"} {
			if there(do, more, s) && !there(do, more+1, s) {
				gone += s
			}
		}
	}
	return gone
}

// there: whether a name of the root is remembered, after what was done, and so many more names that were kept.
func there(do func(c *Cache), more int, s string) bool {
	c := full()
	do(c)
	for i := range more {
		c.Keep("/", "new"+strconv.Itoa(i), nothing(5))
	}
	// Whatever is there is of a later epoch.
	return !c.Keep("/", s, nothing(math.MinInt))
}

// TestUsed: P15.2: Look uses the key, whether it is of that epoch or not, and so does a Keep, true or false; what isn't there isn't used.
func TestUsed(t *testing.T) {
	for _, x := range []struct {
		what string
		do   func(c *Cache)
		want string // what goes first, next, last
	}{
		{"nothing", func(c *Cache) {}, "abc"},
		{"Look", func(c *Cache) { c.Look(5, "/", "a") }, "bca"},
		{"Look of an elder epoch", func(c *Cache) { c.Look(4, "/", "a") }, "bca"},
		{"Look of a later epoch", func(c *Cache) { c.Look(6, "/", "b") }, "acb"},
		{"Look of what isn't there", func(c *Cache) { c.Look(5, "/", "x"); c.Look(5, "/a", "a") }, "abc"},
		{"two Looks", func(c *Cache) { c.Look(5, "/", "b"); c.Look(9, "/", "a") }, "cba"},
		{"Keep", func(c *Cache) { c.Keep("/", "a", nothing(5)) }, "bca"},
		{"Keep of a later epoch", func(c *Cache) { c.Keep("/", "b", nothing(6)) }, "acb"},
		{"Keep of an elder epoch", func(c *Cache) { c.Keep("/", "a", nothing(4)) }, "bca"},
		{"Keeps of an elder epoch", func(c *Cache) { c.Keep("/", "b", nothing(4)); c.Keep("/", "a", nothing(math.MinInt)) }, "cba"},
		{"Keep of one more", func(c *Cache) { c.Keep("/", "d", nothing(5)) }, "bcd"},
		{"what asks alone", func(c *Cache) { c.Shard("/", "a"); c.Counts(); c.Many(); c.Len(0); c.Most() }, "abc"},
	} {
		if got := order(x.do); got != x.want {
			t.Errorf("%s: %s go, not %s", x.what, got, x.want)
		}
	}
}

// TestCounts: P15.2: how often Look was true, and how often it was false; nothing else is counted.
func TestCounts(t *testing.T) {
	c := full()
	counted(t, c, 0, 0)
	for i, x := range []struct {
		epoch        int
		dir, s       string
		hits, misses int
	}{
		{5, "/", "a", 1, 0}, {5, "/", "a", 2, 0}, {4, "/", "a", 2, 1}, {6, "/", "a", 2, 2}, {5, "/", "x", 2, 3}, {5, "/a", "a", 2, 4}, {5, "/", "c", 3, 4},
	} {
		if _, ok := c.Look(x.epoch, x.dir, x.s); ok != (x.hits+x.misses == i+1 && x.s != "x" && x.dir == "/" && x.epoch == 5) {
			t.Error("Look", x, ok)
		}
		counted(t, c, x.hits, x.misses)
		c.Keep("/", "a", nothing(4))
		c.Keep("/", "b", nothing(i))
		c.Shard("/", "a")
		counted(t, c, x.hits, x.misses)
	}
	// That nothing was seen is remembered too.
	c.Keep("/", "none", nothing(0))
	remembers(t, c, "/", "none", nothing(0))
	counted(t, c, 4, 4)
}

// plain is what the chapter says of a Cache, in one list, that which was used last first.
type plain struct {
	many, room   int
	l            []kept
	hits, misses int
}

// kept is an Entry of a key.
type kept struct {
	key string
	e   Entry
}

func (p *plain) of(key string) int { return int(shard.Sum(key) % uint32(max(p.many, 1))) }

func (p *plain) len(shard int) int {
	n := 0
	for _, x := range p.l {
		if p.of(x.key) == shard {
			n++
		}
	}
	return n
}

// take: the Entry of a key, taken out.
func (p *plain) take(key string) (kept, bool) {
	for i, x := range p.l {
		if x.key == key {
			p.l = slices.Delete(p.l, i, i+1)
			return x, true
		}
	}
	return kept{}, false
}

// put: the Entry of a key is the first one; the last one of its shard goes, if there is no room.
func (p *plain) put(x kept) {
	if at := p.of(x.key); p.len(at) >= max(p.room, 1) {
		for i := len(p.l) - 1; ; i-- {
			if p.of(p.l[i].key) == at {
				p.l = slices.Delete(p.l, i, i+1)
				break
			}
		}
	}
	p.l = slices.Insert(p.l, 0, x)
}

func (p *plain) Look(epoch int, dir, s string) (Entry, bool) {
	x, ok := p.take(name.Child(dir, s))
	if ok {
		p.put(x)
	}
	if !ok || x.e.Epoch != epoch {
		p.misses++
		return Entry{}, false
	}
	p.hits++
	return x.e, true
}

func (p *plain) Keep(dir, s string, e Entry) bool {
	key := name.Child(dir, s)
	x, ok := p.take(key)
	if ok && x.e.Epoch > e.Epoch {
		p.put(x)
		return false
	}
	p.put(kept{key: key, e: e})
	return true
}

// holds: a Cache has what the chapter says.
func holds(t *testing.T, c *Cache, p *plain) {
	t.Helper()
	most := 0
	for i := range p.many {
		n := p.len(i)
		if c.Len(i) != n {
			t.Fatal("Len of", i, c.Len(i), "not", n)
		}
		most = max(most, n)
	}
	if c.Many() != p.many || c.Most() != most {
		t.Fatal("Many, Most:", c.Many(), c.Most(), "not", p.many, most)
	}
	counted(t, c, p.hits, p.misses)
}

// TestPlain: P15.1, P15.2: many calls, one behind the other, as the chapter says of each.
func TestPlain(t *testing.T) {
	for _, many := range []int{1, 2, 5, 256} {
		for _, room := range []int{math.MinInt, 0, 1, 2, 5, 1000} {
			c, p := New(many, room), &plain{many: many, room: room}
			for i := range 1500 {
				d, s, epoch := "/d"+strconv.Itoa(i*i%7), "n"+strconv.Itoa(i*i*i%11), i/100+i%3
				if i%5 < 2 {
					e, ok := c.Look(epoch, d, s)
					if w, is := p.Look(epoch, d, s); ok != is || !like(e, w) {
						t.Fatal("Look", epoch, d, s, e, ok, "not", w, is)
					}
				} else {
					e := []Entry{nothing(epoch), file(epoch, i), link(epoch, s), dir(epoch, i)}[i%4]
					ok := c.Keep(d, s, e)
					if is := p.Keep(d, s, e); ok != is {
						t.Fatal("Keep", d, s, e, ok)
					}
				}
				if i%50 == 0 {
					holds(t, c, p)
				}
			}
			holds(t, c, p)
		}
	}
}

// TestHandedIn: P2: Keep neither changes nor keeps the list that is handed in, nor its spare room.
func TestHandedIn(t *testing.T) {
	for _, n := range []int{0, 1, 3} {
		room := make(seen.Place, 6)
		for i := range room {
			room[i] = seen.Spot{Level: i, Inode: 10 + i}
		}
		was := slices.Clone(room)
		e := dir(1, 0)
		e.Found.Dirs = room[:n]
		c := New(1, 4)
		c.Keep("/", "a", dir(0, 5))
		for range 2 {
			if !c.Keep("/", "a", e) || c.Keep("/", "a", nothing(0)) {
				t.Error("Keep")
			}
			x, _ := c.Look(1, "/", "a")
			_ = append(x.Found.Dirs, seen.Spot{Level: 9})
			if !slices.Equal(room, was) {
				t.Error("Keep, or Look, changed what was handed in:", room)
			}
		}
		clear(room)
		want := dir(1, 0)
		want.Found.Dirs = was[:n]
		remembers(t, c, "/", "a", want)
		// A Keep that is false changes, and keeps, as little.
		copy(room, was)
		e.Epoch = 0
		if c.Keep("/", "a", e) || !slices.Equal(room, was) {
			t.Error("Keep of an elder epoch:", room)
		}
		clear(room)
		remembers(t, c, "/", "a", want)
	}
}

// TestAnswered: P2: what Look answers shares nothing with another answer, or with what is kept.
func TestAnswered(t *testing.T) {
	c := New(1, 4)
	c.Keep("/", "a", dir(1, 0))
	for range 3 {
		x, _ := c.Look(1, "/", "a")
		y, _ := c.Look(1, "/", "a")
		if _ = append(x.Found.Dirs, seen.Spot{Level: 9}); !like(y, dir(1, 0)) {
			t.Error("Look:", y)
		}
		clear(x.Found.Dirs)
		x.Found.Kind, x.Target, x.There = 9, "x", false
		if !like(y, dir(1, 0)) {
			t.Error("answers share memory:", y)
		}
		remembers(t, c, "/", "a", dir(1, 0))
		// What was answered is handed in as another's Entry, and changed then.
		if !c.Keep("/", "b", y) || !c.Keep("/", "a", y) {
			t.Error("Keep")
		}
		y.Found.Dirs[0].Inode = 8
		remembers(t, c, "/", "a", dir(1, 0))
		remembers(t, c, "/", "b", dir(1, 0))
		z, _ := c.Look(1, "/", "b")
		clear(z.Found.Dirs)
		remembers(t, c, "/", "a", dir(1, 0))
	}
}

// TestRefused: P2: what is false leaves what is remembered as it was.
func TestRefused(t *testing.T) {
	c := full()
	for range 3 {
		for i, s := range []string{"a", "b", "c"} {
			hasNone(t, c, 4, "/", s)
			if c.Keep("/", s, dir(4, 1)) {
				t.Error("Keep of an elder epoch")
			}
			hasNone(t, c, 4, "/", s)
			hasNone(t, c, 5, "/"+s, s)
			remembers(t, c, "/", s, file(5, i))
		}
		if c.Len(0) != 3 || c.Most() != 3 {
			t.Error("Len, Most:", c.Len(0), c.Most())
		}
	}
	counted(t, c, 9, 27)
}

// TestApart: P2: Caches have names, and counts, of their own.
func TestApart(t *testing.T) {
	a, b := New(2, 2), New(2, 2)
	a.Keep("/", "a", dir(3, 0))
	hasNone(t, b, 3, "/", "a")
	if !b.Keep("/", "a", nothing(1)) || b.Most() != 1 {
		t.Error("Keep")
	}
	remembers(t, a, "/", "a", dir(3, 0))
	remembers(t, b, "/", "a", nothing(1))
	counted(t, a, 1, 0)
	counted(t, b, 1, 1)
	b.Keep("/", "b", nothing(1))
	if a.Most() != 1 || a.Len(0)+a.Len(1) != 1 {
		t.Error("Most, Len:", a.Most(), a.Len(0), a.Len(1))
	}
}

// TestTypes: an Entry has just these fields, in this order.
func TestTypes(t *testing.T) {
	if !like(Entry{1, true, seen.Found{Kind: api.Link}, "x"}, Entry{Epoch: 1, There: true, Found: seen.Found{Kind: api.Link}, Target: "x"}) {
		t.Error("Entry")
	}
}

// TestAllArguments: P1: all calls end, and none panics, whatever the numbers and texts.
func TestAllArguments(t *testing.T) {
	numbers := []int{math.MinInt, -1 << 32, -1, 0, 1, 2, 255, 256, 257, 1 << 32, math.MaxInt}
	texts := []string{"", "a", "/", "//", ".", "..", "/a/", "a/b", "\x00", "\xff", "/a\xff\x00", strings.Repeat("/a", 1<<14)}
	for _, many := range numbers {
		for _, room := range numbers {
			c := New(many, room)
			for i, d := range texts {
				for j, s := range texts {
					epoch := numbers[(i+j)%len(numbers)]
					c.Look(epoch, d, s)
					c.Keep(d, s, Entry{Epoch: epoch, Found: seen.Found{Kind: epoch, Spot: seen.Spot{Level: epoch, Inode: epoch}, Dirs: make(seen.Place, j)}, Target: d})
					c.Look(epoch, d, s)
					if at := c.Shard(d, s); at < 0 || at >= c.Many() || c.Len(at) < 1 {
						t.Errorf("Shard(%.20q, %.20q): %d", d, s, at)
					}
				}
			}
			for _, i := range numbers {
				c.Len(i)
			}
			c.Most()
			c.Counts()
		}
	}
}
