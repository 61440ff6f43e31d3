package stack

import (
	"math"
	"slices"
	"strconv"
	"testing"

	"socage/api"
	"socage/branch"
	"socage/tree"
)

// numbers: those that a place or a number may be, at the edges and beyond.
var numbers = []int{math.MinInt, -1 << 32, -65, -2, -1, 0, 1, 2, 3, 62, 63, 64, 65, 66, 127, 128, 1 << 31, 1 << 32, math.MaxInt}

// fresh: a new Branch, of a root without entries.
func fresh(t *testing.T) *branch.Branch {
	t.Helper()
	b, e := branch.New(tree.Dir(nil))
	if e != api.OK {
		t.Fatal(e)
	}
	return b
}

// numbered: a tree by whose count of nodes it is told from others.
func numbered(i int) api.Node {
	n := api.Node{Kind: api.Dir}
	for k := range i {
		n.Names = append(n.Names, strconv.Itoa(1000+k))
		n.Items = append(n.Items, api.Node{Kind: api.White})
	}
	return n
}

// numberedFrom: so many of these, rising.
func numberedFrom(first, many int) []api.Node {
	var l []api.Node
	for i := range many {
		l = append(l, numbered(first+i))
	}
	return l
}

// plain is what the chapter says of a Stack: its branches from below, their numbers, and how many were ever added.
type plain struct {
	branches []*branch.Branch
	ids      []int
	ever     int
}

func (p plain) add(b *branch.Branch) (plain, int, api.Errno) {
	if len(p.branches) == 64 {
		return p, 0, api.ENOSPC
	}
	q := plain{ever: p.ever + 1}
	q.branches = append(append(q.branches, p.branches...), b)
	q.ids = append(append(q.ids, p.ids...), p.ever)
	return q, p.ever, api.OK
}

func (p plain) remove(id int) (plain, api.Errno) {
	q := plain{ever: p.ever}
	for i, x := range p.ids {
		if x != id {
			q.branches, q.ids = append(q.branches, p.branches[i]), append(q.ids, x)
		}
	}
	if len(q.ids) == len(p.ids) {
		return p, api.ENOENT
	}
	return q, api.OK
}

// holds: s tells what the chapter says.
func holds(t *testing.T, s Stack, p plain) {
	t.Helper()
	n := len(p.branches)
	if s.Len() != n {
		t.Fatal("Len:", s.Len(), "not", n)
	}
	for k := range n {
		if s.At(k) != p.branches[n-1-k] || s.ID(k) != p.ids[n-1-k] {
			t.Fatal("At, ID of", k, "of", n, s.ID(k), "not", p.ids[n-1-k])
		}
	}
	for _, k := range append([]int{n, n + 1, -n, -n - 1}, numbers...) {
		if (k < 0 || k >= n) && (s.At(k) != nil || s.ID(k) != -1) {
			t.Fatal("At, ID of", k, "of", n, s.At(k), s.ID(k))
		}
	}
}

// added: Add does what the chapter says, to s too.
func added(t *testing.T, s Stack, p plain, b *branch.Branch) (Stack, plain) {
	t.Helper()
	u, id, e := s.Add(b)
	q, want, f := p.add(b)
	if id != want || e != f {
		t.Fatal("Add:", id, e, "not", want, f)
	}
	holds(t, u, q)
	holds(t, s, p)
	return u, q
}

// removed: Remove does what the chapter says, to s too.
func removed(t *testing.T, s Stack, p plain, id int) (Stack, plain) {
	t.Helper()
	u, e := s.Remove(id)
	q, f := p.remove(id)
	if e != f {
		t.Fatal("Remove:", id, e, "not", f)
	}
	holds(t, u, q)
	holds(t, s, p)
	return u, q
}

// history: all that can be done in so many steps, from s on; s is the same ahead of each, so none of them changes it.
func history(t *testing.T, s Stack, p plain, steps int, l []*branch.Branch) {
	t.Helper()
	if steps == 0 {
		return
	}
	for _, b := range l {
		u, q := added(t, s, p, b)
		history(t, u, q, steps-1, l)
	}
	for id := -1; id <= p.ever; id++ {
		u, q := removed(t, s, p, id)
		history(t, u, q, steps-1, l)
	}
	holds(t, s, p)
}

// TestHistories: P7.1, P7.2: all short ways from the zero Stack, one Branch twice too.
func TestHistories(t *testing.T) {
	holds(t, Stack{}, plain{})
	history(t, Stack{}, plain{}, 6, []*branch.Branch{fresh(t)})
	history(t, Stack{}, plain{}, 5, []*branch.Branch{fresh(t), fresh(t)})
}

// TestForks: P7.1: of one Stack others are made, none of which is seen in another one.
func TestForks(t *testing.T) {
	var s Stack
	var p plain
	for range 40 {
		s, p = added(t, s, p, fresh(t))
	}
	var l []Stack
	var m []plain
	for i := range 40 {
		u, q := added(t, s, p, fresh(t))
		v, r := removed(t, s, p, i)
		w, x := added(t, v, r, fresh(t))
		l, m = append(l, u, v, w), append(m, q, r, x)
	}
	for i := range l {
		holds(t, l[i], m[i])
	}
	holds(t, s, p)
}

// TestNumbers: P7.1: numbers go on, whatever was removed.
func TestNumbers(t *testing.T) {
	var s Stack
	var p plain
	for i := range 200 {
		s, p = added(t, s, p, fresh(t))
		if s.ID(0) != i {
			t.Fatal("ID:", s.ID(0), "not", i)
		}
		s, p = removed(t, s, p, i)
		if s.Len() != 0 {
			t.Fatal("Len:", s.Len())
		}
	}
	s, p = added(t, s, p, fresh(t))
	if _, e := s.Remove(199); e != api.ENOENT || s.ID(0) != 200 {
		t.Error("Remove of what was removed:", e, s.ID(0))
	}
}

// TestLimits: P7.1: 64 of them, and one more; where one was removed, there is room again.
func TestLimits(t *testing.T) {
	if MaxBranches != 64 {
		t.Error("MaxBranches:", MaxBranches)
	}
	var s Stack
	var p plain
	for i := range 64 {
		u, id, e := s.Add(fresh(t))
		if id != i || e != api.OK || u.Len() != i+1 {
			t.Fatal("Add of", i, id, e)
		}
		s, p = added(t, s, p, fresh(t))
	}
	for range 3 {
		if u, id, e := s.Add(fresh(t)); id != 0 || e != api.ENOSPC || u.Len() != 64 {
			t.Fatal("Add of the 65th:", id, e)
		}
		s, p = added(t, s, p, fresh(t))
	}
	for i := range 64 {
		u, q := removed(t, s, p, i)
		v, id, e := u.Add(fresh(t))
		if id != 64 || e != api.OK || v.Len() != 64 || v.ID(0) != 64 {
			t.Fatal("Add again:", id, e)
		}
		u, q = added(t, u, q, fresh(t))
		added(t, u, q, fresh(t))
	}
	for i := range 64 {
		s, p = removed(t, s, p, (i*37)%64)
	}
	if s.Len() != 0 {
		t.Error("Len:", s.Len())
	}
}

// TestRemoveNone: P7.1: a number that none has.
func TestRemoveNone(t *testing.T) {
	var s Stack
	var p plain
	for range 3 {
		for _, id := range numbers {
			removed(t, s, p, id)
		}
		s, p = added(t, s, p, fresh(t))
	}
}

// TestOf: P7.3: trees, the first one lowest.
func TestOf(t *testing.T) {
	for _, many := range []int{0, 1, 2, 3, 63, 64} {
		s, e := Of(numberedFrom(0, many)...)
		if e != api.OK || s.Len() != many {
			t.Fatal("Of", many, e, s.Len())
		}
		for k := range many {
			if s.ID(k) != many-1-k || s.At(k).Count() != many-k {
				t.Error("of", many, "at", k, s.ID(k), s.At(k).Count())
			}
		}
		if many < 64 {
			if u, id, e := s.Add(fresh(t)); id != many || e != api.OK || u.Len() != many+1 {
				t.Error("Add upon", many, id, e)
			}
		}
	}
}

// TestOfErrors: P7.3: the first error, tree by tree, and the zero Stack.
func TestOfErrors(t *testing.T) {
	right, wrong := numbered(1), tree.White()
	many := func(n int, behind ...api.Node) []api.Node {
		return append(slices.Repeat([]api.Node{right}, n), behind...)
	}
	for i, x := range []struct {
		trees []api.Node
		e     api.Errno
	}{
		{[]api.Node{wrong}, api.EINVAL},
		{[]api.Node{{}}, api.EINVAL},
		{[]api.Node{tree.Text("a")}, api.EINVAL},
		{[]api.Node{tree.Link("a")}, api.EINVAL},
		{[]api.Node{tree.Dir([]string{"b", "a"}, wrong, wrong)}, api.EINVAL},
		{[]api.Node{tree.Dir([]string{"a"})}, api.EINVAL},
		{[]api.Node{numbered(4095)}, api.OK},
		{[]api.Node{numbered(4096)}, api.EINVAL},
		{[]api.Node{right, wrong}, api.EINVAL},
		{[]api.Node{wrong, right}, api.EINVAL},
		{[]api.Node{right, wrong, right}, api.EINVAL},
		{many(63), api.OK},
		{many(64), api.OK},
		{many(63, wrong), api.EINVAL},
		{many(64, right), api.ENOSPC},
		{many(64, wrong), api.EINVAL},
		{many(64, right, wrong), api.ENOSPC},
		{many(64, wrong, right), api.EINVAL},
		{many(65, wrong), api.ENOSPC},
		{many(200), api.ENOSPC},
	} {
		s, e := Of(x.trees...)
		if e != x.e {
			t.Error(i, "Of:", e, "not", x.e)
		}
		if e == api.OK {
			continue
		}
		holds(t, s, plain{})
		if _, id, f := s.Add(fresh(t)); id != 0 || f != api.OK {
			t.Error(i, "Add to the zero one:", id, f)
		}
	}
}

// TestHandedIn: P2: Of neither changes trees nor keeps their lists.
func TestHandedIn(t *testing.T) {
	l := make([]api.Node, 3, 5)
	for i := range l {
		l[i] = numbered(i + 1)
	}
	l[:4][3] = tree.Text("a")
	s, e := Of(l...)
	if e != api.OK {
		t.Fatal(e)
	}
	for i := range l {
		if !tree.Same(l[i], numbered(i+1)) {
			t.Error("Of changed", i)
		}
		l[i].Names[0], l[i].Items[0] = "zz", tree.Text("a")
		l[i] = api.Node{}
	}
	if l[:4][3].Kind != api.File || l[:5][4].Kind != 0 {
		t.Error("Of changed the room behind what was handed in")
	}
	for k := range 3 {
		b := s.At(k)
		if b.Count() != 4-k || b.Names(0)[0] != "1000" || b.Kind(1) != api.White {
			t.Error("Of kept a list:", k, b.Names(0))
		}
	}
}

// TestApart: P2: what is done to one Stack is not seen in another one, made of like trees.
func TestApart(t *testing.T) {
	a, _ := Of(numberedFrom(0, 3)...)
	b, _ := Of(numberedFrom(0, 3)...)
	u, _ := a.Remove(1)
	v, id, _ := a.Add(fresh(t))
	w, other, _ := b.Add(fresh(t))
	if u.Len() != 2 || v.Len() != 4 || w.Len() != 4 || id != 3 || other != 3 || a.Len() != 3 || b.Len() != 3 {
		t.Error("Len:", u.Len(), v.Len(), w.Len(), a.Len(), b.Len(), id, other)
	}
	for k := range 3 {
		if a.At(k) == b.At(k) || a.At(k) == nil || v.At(k+1) != a.At(k) {
			t.Error("At", k)
		}
	}
	var none Stack
	if none.Len() != 0 || none.At(0) != nil || none.ID(0) != -1 {
		t.Error("the zero one:", none.Len(), none.ID(0))
	}
}

// TestAllArguments: P1: all calls end, and none panics, whatever the numbers and trees.
func TestAllArguments(t *testing.T) {
	endless := make([]api.Node, 1)
	endless[0] = api.Node{Kind: api.Dir, Names: []string{"a"}, Items: endless}
	deep := tree.Dir(nil)
	for range 1 << 16 {
		deep = tree.Dir([]string{"a"}, deep)
	}
	for _, n := range []api.Node{endless[0], deep, {Kind: -1}, {Kind: 5, Size: -1}, {Kind: api.File, Size: math.MaxInt}} {
		if s, e := Of(numbered(0), n); e != api.EINVAL || s.Len() != 0 {
			t.Error("Of:", e)
		}
	}
	full, _ := Of(numberedFrom(0, 64)...)
	some, _ := Of(numberedFrom(0, 3)...)
	for _, s := range []Stack{{}, some, full} {
		for _, k := range numbers {
			s.At(k)
			s.ID(k)
			s.Remove(k)
		}
		s.Add(fresh(t))
		s.Add(nil)
	}
}
