package lru

import (
	"errors"
	"maps"
	"math"
	"slices"
	"strconv"
	"strings"
	"testing"
)

// plain is what the chapter says of a Cache: of each key its value, and at which step it was used last.
type plain[K comparable, V any] struct {
	room, step int
	value      map[K]V
	used       map[K]int
}

// plainly: New, as the chapter says.
func plainly[K comparable, V any](room int) *plain[K, V] {
	if room < 1 {
		room = 1
	}
	return &plain[K, V]{room: room, value: map[K]V{}, used: map[K]int{}}
}

func (p *plain[K, V]) get(k K) (V, bool) {
	v, ok := p.value[k]
	if ok {
		p.step++
		p.used[k] = p.step
	}
	return v, ok
}

func (p *plain[K, V]) put(k K, v V) (gone K, is bool) {
	if _, ok := p.value[k]; !ok && len(p.value) == p.room {
		l := p.keys()
		gone, is = l[len(l)-1], true
		delete(p.value, gone)
		delete(p.used, gone)
	}
	p.step++
	p.value[k], p.used[k] = v, p.step
	return gone, is
}

func (p *plain[K, V]) keys() []K {
	return slices.SortedFunc(maps.Keys(p.used), func(a, b K) int { return p.used[b] - p.used[a] })
}

// both is a Cache, and what the chapter says of it.
type both[K, V comparable] struct {
	t *testing.T
	c *Cache[K, V]
	p *plain[K, V]
}

// pairOf: both, of that room.
func pairOf[K, V comparable](t *testing.T, room int) both[K, V] {
	b := both[K, V]{t, New[K, V](room), plainly[K, V](room)}
	b.holds()
	return b
}

// holds: the Cache is what the chapter says.
func (b both[K, V]) holds() {
	b.t.Helper()
	if b.c.Len() != len(b.p.value) || b.c.Room() != b.p.room || !slices.Equal(b.c.Keys(), b.p.keys()) {
		b.t.Fatal("Len, Room, Keys:", b.c.Len(), b.c.Room(), b.c.Keys(), "not", len(b.p.value), b.p.room, b.p.keys())
	}
}

func (b both[K, V]) get(k K) {
	b.t.Helper()
	v, ok := b.c.Get(k)
	if w, is := b.p.get(k); v != w || ok != is {
		b.t.Fatal("Get of", k, v, ok, "not", w, is)
	}
}

func (b both[K, V]) put(k K, v V) {
	b.t.Helper()
	gone, is := b.c.Put(k, v)
	if g, ok := b.p.put(k, v); gone != g || is != ok {
		b.t.Fatal("Put of", k, gone, is, "not", g, ok)
	}
}

// TestAllOf: P13.1, P13.2: all that six calls may be, of four keys, the zero one too, with room for one to four.
func TestAllOf(t *testing.T) {
	for room := 1; room <= 4; room++ {
		for code := range 8 * 8 * 8 * 8 * 8 * 8 {
			b := pairOf[int, int](t, room)
			for i, c := 1, code; i <= 6; i, c = i+1, c/8 {
				if c%2 == 0 {
					b.get(c / 2 % 4)
				} else {
					b.put(c/2%4, i)
				}
			}
			b.holds()
		}
	}
}

// TestLong: P13.1, P13.2: many calls, one behind the other, each asked of.
func TestLong(t *testing.T) {
	for _, room := range []int{1, 2, 3, 7, 50, 128} {
		b := pairOf[string, int](t, room)
		for i := range 3000 {
			k := strconv.Itoa(i * i % 211)
			switch i % 5 {
			case 0, 3:
				b.get(k)
			default:
				b.put(k, i)
			}
			b.holds()
		}
	}
}

// TestExamples: P13.1: the chapter's example, and others, written out: what goes at a last Put, and what is left.
func TestExamples(t *testing.T) {
	for _, x := range []struct {
		room  int
		calls string // a letter is put; behind a ? it is got
		gone  string
		is    bool
		keys  string
	}{
		{2, "ab?ac", "b", true, "ca"},
		{2, "abc", "a", true, "cb"},
		{2, "ab", "", false, "ba"},
		{2, "abac", "b", true, "ca"},
		{2, "abb", "", false, "ba"},
		{2, "aba", "", false, "ab"},
		{2, "ab?x?a?yc", "b", true, "ca"},
		{3, "abc?a?bd", "c", true, "dba"},
		{3, "abc?b?b?ad", "c", true, "dab"},
		{3, "abcabd", "c", true, "dba"},
		{1, "a", "", false, "a"},
		{1, "aa", "", false, "a"},
		{1, "ab", "a", true, "b"},
		{1, "ab?aa", "b", true, "a"},
		{0, "ab", "a", true, "b"},
		{-1, "abc", "b", true, "c"},
		{4, "abcd", "", false, "dcba"},
		{4, "abcde", "a", true, "edcb"},
	} {
		c := New[string, int](x.room)
		var gone string
		var is bool
		for i := 0; i < len(x.calls); i++ {
			if x.calls[i] == '?' {
				i++
				c.Get(x.calls[i : i+1])
			} else {
				gone, is = c.Put(x.calls[i:i+1], i)
			}
		}
		if keys := strings.Join(c.Keys(), ""); gone != x.gone || is != x.is || keys != x.keys || c.Len() != len(x.keys) {
			t.Error(x.room, x.calls, gone, is, keys, c.Len())
		}
	}
}

// TestRoom: P13.1: for 1, if room is below 1; as many keys as there is room for, and one more.
func TestRoom(t *testing.T) {
	for _, x := range []struct{ room, want int }{
		{math.MinInt, 1}, {-1 << 32, 1}, {-1, 1}, {0, 1}, {1, 1}, {2, 2}, {3, 3}, {64, 64}, {1000, 1000},
	} {
		c := New[int, string](x.room)
		if c.Room() != x.want || c.Len() != 0 || len(c.Keys()) != 0 {
			t.Error("New of", x.room, c.Room(), c.Len(), c.Keys())
		}
		for i := range x.want {
			if gone, is := c.Put(i, "v"); gone != 0 || is || c.Len() != i+1 {
				t.Error("Put into", x.room, i, gone, is, c.Len())
			}
		}
		for i := range 3 {
			if gone, is := c.Put(x.want+i, "v"); gone != i || !is || c.Len() != x.want || c.Room() != x.want {
				t.Error("Put into the full one of", x.room, gone, is, c.Len())
			}
		}
	}
	for _, room := range []int{1 << 31, 1 << 62, math.MaxInt} {
		c := New[int, [1000]int](room)
		for i := range 100 {
			if _, is := c.Put(i, [1000]int{i}); is || c.Len() != i+1 || c.Room() != room {
				t.Error("Put into", room, i, is, c.Len(), c.Room())
			}
		}
		if v, ok := c.Get(0); !ok || v != ([1000]int{}) {
			t.Error("Get of", room)
		}
	}
}

// TestNothing: P13.1: of a Cache without keys, and of keys that aren't there, or went: the zero value and false.
func TestNothing(t *testing.T) {
	type value struct {
		l []int
		s string
	}
	c := New[string, *value](1)
	if v, ok := c.Get(""); v != nil || ok || c.Len() != 0 {
		t.Error("Get of none:", v, ok)
	}
	c.Put("a", &value{s: "1"})
	c.Put("b", &value{s: "2"})
	for _, k := range []string{"", "a", "A", "bb", "b\x00", "\x00"} {
		if v, ok := c.Get(k); v != nil || ok || !slices.Equal(c.Keys(), []string{"b"}) {
			t.Error("Get of", k, v, ok)
		}
	}
	d := New[int, value](2)
	d.Put(1, value{[]int{1}, "1"})
	if v, ok := d.Get(2); v.l != nil || v.s != "" || ok {
		t.Error("Get of 2:", v, ok)
	}
	if v, ok := d.Get(1); len(v.l) != 1 || v.s != "1" || !ok {
		t.Error("Get of 1:", v, ok)
	}
}

// TestZero: P13.1: the zero key is one like others, and so is a zero value: it is the bool that tells.
func TestZero(t *testing.T) {
	c := New[string, int](2)
	if gone, is := c.Put("", 0); gone != "" || is {
		t.Error("Put:", gone, is)
	}
	if v, ok := c.Get(""); v != 0 || !ok || !slices.Equal(c.Keys(), []string{""}) {
		t.Error("Get:", v, ok)
	}
	c.Put("a", 1)
	if gone, is := c.Put("b", 2); gone != "" || !is || !slices.Equal(c.Keys(), []string{"b", "a"}) {
		t.Error("Put, for which the zero key goes:", gone, is)
	}
	if _, ok := c.Get(""); ok {
		t.Error("Get of what went")
	}
}

// TestAgain: P13.1: a key that is there has the new value, and goes nowhere; one that went comes anew.
func TestAgain(t *testing.T) {
	c := New[string, string](2)
	for i := range 10 {
		c.Put("a", strconv.Itoa(i))
		c.Put("b", "b")
		if v, ok := c.Get("a"); v != strconv.Itoa(i) || !ok || c.Len() != 2 {
			t.Error("Get:", v, ok)
		}
	}
	c.Put("c", "c")
	c.Put("d", "d")
	if v, ok := c.Get("a"); v != "" || ok {
		t.Error("Get of what went:", v, ok)
	}
	c.Put("a", "")
	if v, ok := c.Get("a"); v != "" || !ok || !slices.Equal(c.Keys(), []string{"a", "d"}) {
		t.Error("Get of what came anew:", v, ok)
	}
}

// TestKeys: P13.1: keys of many types.
func TestKeys(t *testing.T) {
	type place struct {
		level int
		name  string
	}
	a := pairOf[place, string](t, 2)
	b := pairOf[[2]byte, struct{}](t, 3)
	d := pairOf[any, int](t, 4)
	e := pairOf[error, bool](t, 2)
	f, g := errors.New("f"), errors.New("f")
	for i := range 60 {
		a.put(place{i % 2, strconv.Itoa(i % 3)}, "v")
		a.get(place{i % 3, strconv.Itoa(i % 2)})
		b.put([2]byte{byte(i % 3), byte(i % 2)}, struct{}{})
		b.get([2]byte{byte(i % 2), byte(i % 3)})
		d.put([]any{nil, 1, "1", 1.0, int8(1), place{}, [1]int{1}}[i%7], i)
		d.get([]any{nil, 1, "1", 1.5, uint(1), place{}, [1]int{1}, true}[i*i%8])
		e.put([]error{nil, f, g, errors.ErrUnsupported}[i%4], true)
		e.get([]error{nil, f, g}[i*i%3])
		a.holds()
		b.holds()
		d.holds()
		e.holds()
	}
	x, y := new(int), new(int)
	p := New[*int, int](2)
	p.Put(x, 1)
	p.Put(y, 2)
	if v, ok := p.Get(x); v != 1 || !ok || p.Len() != 2 {
		t.Error("Get of a pointer:", v, ok)
	}
}

// TestUnlikeItself: P1, P13.1: a key that is like none, itself neither, isn't there; Put again and again, it takes no more than the room.
func TestUnlikeItself(t *testing.T) {
	c := New[float64, int](3)
	c.Put(1, 1)
	for i := range 2 {
		if gone, is := c.Put(math.NaN(), i); is || c.Len() != i+2 {
			t.Error("Put:", gone, is, c.Len())
		}
	}
	if v, ok := c.Get(math.NaN()); v != 0 || ok {
		t.Error("Get:", v, ok)
	}
	if gone, is := c.Put(math.NaN(), 2); gone != 1 || !is || c.Len() != 3 {
		t.Error("Put:", gone, is)
	}
	if gone, is := c.Put(0, 7); !math.IsNaN(gone) || !is || c.Len() != 3 {
		t.Error("Put:", gone, is)
	}
	if v, ok := c.Get(math.Copysign(0, -1)); v != 7 || !ok {
		t.Error("Get of 0 below 0:", v, ok)
	}
	type odd struct {
		n int
		x any
	}
	lists := []any{[]int{1}, []int(nil), map[int]int{}, func() {}, odd{1, []int{1}}, [1]any{[]int{}}}
	d := New[any, int](4)
	for i, k := range lists {
		d.Put("a", i)
		if v, ok := d.Get(k); v != 0 || ok {
			t.Error("Get of a list:", v, ok)
		}
		for j := range 3 {
			if _, is := d.Put(k, j); is != (i > 0) || d.Len() != min(3*i+j+2, 4) {
				t.Error("Put of a list:", is, d.Len())
			}
			if v, ok := d.Get(k); v != 0 || ok {
				t.Error("Get of a list:", v, ok)
			}
		}
		if v, ok := d.Get("a"); v != i || !ok {
			t.Error("Get behind lists:", v, ok)
		}
	}
	e := New[odd, int](3)
	e.Put(odd{2, "x"}, 1)
	e.Put(odd{1, []int{}}, 2)
	e.Put(odd{1, []int{}}, 3)
	if v, ok := e.Get(odd{2, "x"}); v != 1 || !ok || e.Len() != 3 {
		t.Error("Get of a struct:", v, ok, e.Len())
	}
	if v, ok := e.Get(odd{1, "x"}); v != 0 || ok {
		t.Error("Get of a struct that isn't there:", v, ok)
	}
}

// TestRefused: P2: a Get that is false leaves nothing behind.
func TestRefused(t *testing.T) {
	c := New[string, int](3)
	for i, k := range []string{"a", "b", "c"} {
		c.Put(k, i)
		for _, none := range []string{"", "x", "aa"} {
			c.Get(none)
		}
	}
	if !slices.Equal(c.Keys(), []string{"c", "b", "a"}) {
		t.Error("Keys:", c.Keys())
	}
	if gone, is := c.Put("x", 1); gone != "a" || !is {
		t.Error("Put:", gone, is)
	}
}

// TestAsked: P2: Len, Room and Keys use no key, and change nothing.
func TestAsked(t *testing.T) {
	c := New[int, int](3)
	for i := range 3 {
		c.Put(i, i)
	}
	for range 3 {
		if c.Len() != 3 || c.Room() != 3 || !slices.Equal(c.Keys(), []int{2, 1, 0}) {
			t.Error("Len, Room, Keys:", c.Len(), c.Room(), c.Keys())
		}
	}
	if gone, is := c.Put(3, 3); gone != 0 || !is {
		t.Error("Put:", gone, is)
	}
}

// TestAnswered: P2: the Keys that are answered are new memory each time, and stay what they were.
func TestAnswered(t *testing.T) {
	c := New[string, int](3)
	c.Put("a", 1)
	c.Put("b", 2)
	l, m := c.Keys(), c.Keys()
	_, _ = append(l, "y"), append(m, "z")
	c.Put("c", 3)
	c.Get("a")
	if !slices.Equal(l, []string{"b", "a"}) || !slices.Equal(m, l) || !slices.Equal(c.Keys(), []string{"a", "c", "b"}) {
		t.Error("Keys:", l, m, c.Keys())
	}
	clear(l)
	if !slices.Equal(m, []string{"b", "a"}) || !slices.Equal(c.Keys(), []string{"a", "c", "b"}) {
		t.Error("Keys share memory:", m, c.Keys())
	}
	if v, ok := c.Get("b"); v != 2 || !ok {
		t.Error("Get:", v, ok)
	}
}

// TestApart: P2: each Cache has keys of its own.
func TestApart(t *testing.T) {
	a, b := New[string, int](2), New[string, int](2)
	a.Put("x", 1)
	if _, ok := b.Get("x"); ok || b.Len() != 0 {
		t.Error("Get of the other one")
	}
	b.Put("x", 2)
	b.Put("y", 3)
	if gone, is := b.Put("z", 4); gone != "x" || !is {
		t.Error("Put:", gone, is)
	}
	if v, ok := a.Get("x"); v != 1 || !ok || !slices.Equal(a.Keys(), []string{"x"}) {
		t.Error("Get:", v, ok)
	}
}

// TestAllArguments: P1: all calls end, and none panics, whatever the rooms, keys and values.
func TestAllArguments(t *testing.T) {
	texts := []string{"", "a", "/", "..", "\x00", "\xff", strings.Repeat("a", 1<<20), strings.Repeat("a", 1<<20) + "b"}
	for _, room := range []int{math.MinInt, -1, 0, 1, 2, 3, 4, 1 << 31, math.MaxInt} {
		c := New[string, []string](room)
		d := New[struct{}, func()](room)
		e := New[any, any](room)
		for i, k := range texts {
			for j, v := range texts {
				c.Get(v)
				c.Put(k, texts[j:])
				d.Get(struct{}{})
				d.Put(struct{}{}, nil)
				e.Get([]any{nil, k, i, texts, t}[j%5])
				e.Put([]any{v, nil, j, texts, t}[i%5], texts)
				if c.Len() != len(c.Keys()) || c.Len() > c.Room() || d.Len() != 1 || len(d.Keys()) != 1 || e.Len() != len(e.Keys()) || e.Len() > e.Room() {
					t.Error("Len:", c.Len(), d.Len(), e.Len())
				}
			}
		}
	}
}
