package shard

import (
	"hash/fnv"
	"math"
	"slices"
	"strconv"
	"strings"
	"testing"

	"socage/lru"
)

// plainSum is what the chapter says of Sum, in numbers that are large enough not to wrap round.
func plainSum(key string) uint32 {
	sum := uint64(2166136261)
	for _, b := range []byte(key) {
		low := sum % 256
		sum = (sum - low + (low ^ uint64(b))) * 16777619 % (1 << 32)
	}
	return uint32(sum)
}

// TestExamples: P14.1: the chapter's example, and others, written out.
func TestExamples(t *testing.T) {
	for key, want := range map[string]uint32{
		"": 2166136261, "a": 3826002220, "b": 0xE70C2DE5, "foobar": 0xBF9CF968, "\x00": 0x050C5D1F, "fo": 0x6222E842,
	} {
		if s := Sum(key); s != want {
			t.Errorf("Sum of %q: %d, not %d", key, s, want)
		}
	}
}

// TestSum: P14.1: all keys of one byte and of two, and long ones, each bit of them.
func TestSum(t *testing.T) {
	holds := func(key string) {
		t.Helper()
		h := fnv.New32a()
		h.Write([]byte(key))
		if s := Sum(key); s != plainSum(key) || s != h.Sum32() {
			t.Fatalf("Sum of %.20q: %d, not %d", key, s, plainSum(key))
		}
	}
	for i := range 256 {
		holds(string([]byte{byte(i)}))
		for j := range 256 {
			holds(string([]byte{byte(i), byte(j)}))
		}
		holds(strings.Repeat(string([]byte{byte(i)}), 1000+i))
	}
	for _, key := range []string{"/", "/a/b", "/b/a", "\xc3\xa9", "\xe2\x82\xac", "\xf0\x9f\x98\x80", "\xff\xfe", "a\x00", "\x00a", strings.Repeat("/n", 1<<20)} {
		holds(key)
	}
}

// TestMany: P14.2: so many shards, one at least, 256 at most.
func TestMany(t *testing.T) {
	for _, x := range []struct{ many, want int }{
		{math.MinInt, 1}, {-1 << 32, 1}, {-1, 1}, {0, 1}, {1, 1}, {2, 2}, {3, 3}, {64, 64}, {255, 255}, {256, 256}, {257, 256}, {1 << 32, 256}, {1<<32 + 1, 256}, {math.MaxInt, 256},
	} {
		s := New[string](x.many, 2)
		if s.Many() != x.want || s.Most() != 0 {
			t.Error("New of", x.many, s.Many(), s.Most())
		}
		used := make([]int, x.want)
		for i := range 3000 {
			k := strconv.Itoa(i)
			at := s.Of(k)
			if at != int(plainSum(k)%uint32(x.want)) {
				t.Fatal("Of", k, "among", x.many, at)
			}
			used[at] = min(used[at]+1, 2)
			s.Put(k, k)
			if s.Len(at) != used[at] {
				t.Fatal("Len of", at, "among", x.many, s.Len(at))
			}
		}
		for i, n := range used {
			if n != 2 || s.Len(i) != 2 {
				t.Error("Len of", i, "among", x.many, n, s.Len(i))
			}
		}
		if s.Many() != x.want || s.Most() != 2 {
			t.Error("Many, Most:", s.Many(), s.Most())
		}
	}
	if MaxShards != 256 {
		t.Error("MaxShards")
	}
}

// plain is what the chapter says of Shards: so many Caches of their own.
type plain []*lru.Cache[string, int]

// holds: the Shards' Lens, and the greatest one, are what the chapter says.
func holds(t *testing.T, s *Shards[int], p plain) {
	t.Helper()
	most := 0
	for i, c := range p {
		if s.Len(i) != c.Len() {
			t.Fatal("Len of", i, s.Len(i), "not", c.Len())
		}
		most = max(most, c.Len())
	}
	if s.Many() != len(p) || s.Most() != most {
		t.Fatal("Many, Most:", s.Many(), s.Most(), "not", len(p), most)
	}
}

// TestShards: P14.2: Get and Put are those of the key's own shard, whatever the others are asked; many calls, one behind the other.
func TestShards(t *testing.T) {
	for _, many := range []int{1, 2, 3, 7, 255, 256} {
		for _, room := range []int{math.MinInt, -1, 0, 1, 2, 5, 1 << 40, math.MaxInt} {
			s := New[int](many, room)
			var p plain
			for range many {
				p = append(p, lru.New[string, int](room))
			}
			for i := range 1500 {
				k := "/k" + strconv.Itoa(i*i%397)
				c := p[plainSum(k)%uint32(many)]
				if i%3 == 0 {
					v, ok := s.Get(k)
					if w, is := c.Get(k); v != w || ok != is {
						t.Fatal("Get of", k, v, ok, "not", w, is)
					}
				} else {
					gone, is := s.Put(k, i)
					if g, ok := c.Put(k, i); gone != g || is != ok {
						t.Fatal("Put of", k, gone, is, "not", g, ok)
					}
				}
				if i%100 == 0 {
					holds(t, s, p)
				}
			}
			holds(t, s, p)
		}
	}
}

// of: so many keys of one of the shards.
func of(t *testing.T, s *Shards[int], shard, many int) []string {
	t.Helper()
	var l []string
	for i := range 100_000 {
		if k := strconv.Itoa(i); s.Of(k) == shard {
			l = append(l, k)
		}
		if len(l) == many {
			return l
		}
	}
	t.Fatal("no keys of shard", shard)
	return nil
}

// TestOwnRoom: P14.2: each shard has room of its own: at it, one beyond it, and what goes for that, written out.
func TestOwnRoom(t *testing.T) {
	s := New[int](3, 2)
	for shard := range 3 {
		k := of(t, s, shard, 4)
		for i := range 2 {
			if gone, is := s.Put(k[i], i); gone != "" || is || s.Len(shard) != i+1 || s.Most() != max(i+1, min(2*shard, 2)) {
				t.Error("Put:", gone, is, s.Len(shard), s.Most())
			}
		}
		if v, ok := s.Get(k[0]); v != 0 || !ok {
			t.Error("Get:", v, ok)
		}
		if gone, is := s.Put(k[2], 2); gone != k[1] || !is || s.Len(shard) != 2 {
			t.Error("Put, beyond the room:", gone, is)
		}
		if gone, is := s.Put(k[0], 5); gone != "" || is {
			t.Error("Put again:", gone, is)
		}
		if v, ok := s.Get(k[0]); v != 5 || !ok {
			t.Error("Get:", v, ok)
		}
		for _, none := range []string{k[1], k[3]} {
			if v, ok := s.Get(none); v != 0 || ok {
				t.Error("Get of what isn't there:", v, ok)
			}
		}
		for i := range 3 {
			if want := map[bool]int{true: 2}[i <= shard]; s.Len(i) != want {
				t.Error("Len of", i, s.Len(i), "not", want)
			}
		}
	}
	// The fullest one isn't the first or the last.
	u := New[int](3, 9)
	for i, many := range []int{2, 5, 1} {
		for _, k := range of(t, u, i, many) {
			u.Put(k, i)
		}
	}
	if u.Len(0) != 2 || u.Len(1) != 5 || u.Len(2) != 1 || u.Most() != 5 {
		t.Error("Most:", u.Len(0), u.Len(1), u.Len(2), u.Most())
	}
}

// TestLen: P14.2: 0, if there is no such shard.
func TestLen(t *testing.T) {
	for _, many := range []int{1, 2, 256} {
		s := New[int](many, 1)
		for i := range many {
			s.Put(of(t, s, i, 1)[0], i)
		}
		for _, x := range []struct{ i, want int }{
			{math.MinInt, 0}, {-1 << 32, 0}, {-many, 0}, {-1, 0}, {0, 1}, {many - 1, 1}, {many, 0}, {many + 1, 0}, {1 << 32, 0}, {math.MaxInt, 0},
		} {
			if n := s.Len(x.i); n != x.want {
				t.Error("Len of", x.i, "among", many, n)
			}
		}
	}
}

// TestAsked: P2: what only asks uses no key, and a Get that is false changes nothing.
func TestAsked(t *testing.T) {
	s := New[int](1, 2)
	s.Put("a", 1)
	s.Put("b", 2)
	for range 3 {
		s.Of("a")
		s.Get("x")
		if s.Many() != 1 || s.Len(0) != 2 || s.Most() != 2 {
			t.Error("Many, Len, Most:", s.Many(), s.Len(0), s.Most())
		}
	}
	if gone, is := s.Put("c", 3); gone != "a" || !is {
		t.Error("Put:", gone, is)
	}
}

// TestApart: P2: Shards have keys of their own, as one of them has.
func TestApart(t *testing.T) {
	a, b := New[int](4, 1), New[int](4, 1)
	a.Put("x", 1)
	if v, ok := b.Get("x"); v != 0 || ok || b.Most() != 0 {
		t.Error("Get of the other one's:", v, ok)
	}
	b.Put("x", 2)
	if v, ok := a.Get("x"); v != 1 || !ok || a.Most() != 1 {
		t.Error("Get:", v, ok)
	}
}

// TestValues: P14.2: values of any type; a false Get answers the zero one.
func TestValues(t *testing.T) {
	s := New[[]string](2, 1)
	s.Put("a", []string{"x"})
	if v, ok := s.Get("a"); !slices.Equal(v, []string{"x"}) || !ok {
		t.Error("Get:", v, ok)
	}
	if v, ok := s.Get("b"); v != nil || ok {
		t.Error("Get:", v, ok)
	}
	u := New[struct{ n int }](2, 0)
	if gone, is := u.Put("", struct{ n int }{3}); gone != "" || is {
		t.Error("Put of the empty key:", gone, is)
	}
	if v, ok := u.Get(""); v.n != 3 || !ok || u.Len(u.Of("")) != 1 {
		t.Error("Get of the empty key:", v, ok)
	}
}

// TestAllArguments: P1: all calls end, and none panics, whatever the numbers and keys.
func TestAllArguments(t *testing.T) {
	numbers := []int{math.MinInt, -1 << 32, -1, 0, 1, 2, 3, 255, 256, 257, 1 << 31, 1 << 32, math.MaxInt}
	texts := []string{"", "a", "/", "..", "\x00", "\xff", "a\xff\x00", strings.Repeat("a", 1<<16)}
	for _, many := range numbers {
		for _, room := range numbers {
			s := New[any](many, room)
			for _, k := range texts {
				s.Get(k)
				s.Put(k, texts)
				s.Put(k, nil)
				if at := s.Of(k); at < 0 || at >= s.Many() || s.Len(at) < 1 {
					t.Errorf("Of %.20q: %d", k, at)
				}
			}
			for _, i := range numbers {
				s.Len(i)
			}
			s.Most()
		}
	}
}
