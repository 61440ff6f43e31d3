package tale

import (
	"math"
	"reflect"
	"slices"
	"strings"
	"testing"

	"socage/api"
	"socage/image"
	"socage/sched"
	"socage/server"
	"socage/spec"
	"socage/stack"
	"socage/tree"
)

// last is the greatest step of which something is promised.
const last = math.MaxInt32

// made: the Stack of trees, the uppermost one last.
func made(t *testing.T, trees ...api.Node) stack.Stack {
	t.Helper()
	s, e := stack.Of(trees...)
	if e != api.OK {
		t.Fatal(e)
	}
	return s
}

// imageOf: a tree as bytes.
func imageOf(t *testing.T, n api.Node) string {
	t.Helper()
	s, e := image.Encode(n)
	if e != api.OK {
		t.Fatal(e)
	}
	return s
}

// lower: a tree with directories, files and links.
func lower() api.Node {
	return tree.Dir([]string{"d", "e", "f", "l", "m", "n"}, tree.Dir([]string{"a", "b", "c"}, tree.Text("1"), tree.Link("../e/x"), tree.Dir(nil)), tree.Dir(nil), tree.Text("hello"), tree.Link("d"), tree.Link("/d/../f"), tree.Link("n"))
}

// upper: what hides some of that, and has some more.
func upper() api.Node {
	return tree.Dir([]string{"d", "e", "f"}, tree.Dir([]string{"a", "z"}, tree.White(), tree.Text("22")), tree.Opaque(tree.Dir([]string{"x"}, tree.Text("333"))), tree.White())
}

// like: two rows of Records are the same; a list without items may be nil or not.
func like(a, b []sched.Record) bool {
	return slices.EqualFunc(a, b, func(a, b sched.Record) bool {
		names := slices.Equal(a.Result.Names, b.Result.Names)
		a.Result.Names, b.Result.Names = nil, nil
		return names && reflect.DeepEqual(a, b)
	})
}

// deep: the same Records, with lists of their own.
func deep(l []sched.Record) []sched.Record {
	l = slices.Clone(l)
	for i := range l {
		l[i].Result.Names = slices.Clone(l[i].Result.Names)
	}
	return l
}

// chance: numbers below n, of a row of its own for each seed.
func chance(seed int) func(n int) int {
	x := uint32(seed*2 + 1)
	return func(n int) int {
		x = x*1664525 + 1013904223
		return int(x>>8) % n
	}
}

// some: what may be asked for.
func some(t *testing.T) []api.Op {
	var ops []api.Op
	for _, path := range []string{"", "/", "d", "l/a", "m", "d/b", "n", "e/x", "x/y", "l/c/../..", "d/z"} {
		for _, kind := range []int{api.Lookup, api.Stat, api.Readlink, api.ReadAt, api.Open} {
			ops = append(ops, api.Op{Kind: kind, Path: path, Off: len(path) % 2, N: 3})
		}
	}
	for id := range 12 {
		ops = append(ops, api.Op{Kind: api.Page, ID: id, N: 1 + id%3}, api.Op{Kind: api.Page, ID: id, N: 1}, api.Op{Kind: api.Close, ID: id}, api.Op{Kind: api.Remove, ID: id})
	}
	add := imageOf(t, upper())
	for i := range 16 {
		ops = append(ops, api.Op{Kind: api.Add, Image: add[:len(add)-i%8/7]}, api.Op{Kind: api.Open, Path: "d"})
	}
	return append(ops, api.Op{}, api.Op{Kind: 10}, api.Op{Kind: api.Page, ID: 1}, api.Op{Kind: api.ReadAt, Path: "f", Off: -1})
}

// played: some clients' calls, as they are picked, of a row of its own for each seed.
func played(t *testing.T, seed, cursors int) []sched.Record {
	next, ops := chance(seed), some(t)
	clients := make([][]api.Op, 1+next(6))
	for i := range clients {
		for range 1 + next(6) {
			clients[i] = append(clients[i], ops[next(len(ops))])
		}
	}
	var picks []int
	for range next(300) {
		picks = append(picks, next(len(clients)))
	}
	l, _ := sched.Play(made(t, lower()), server.Config{Shards: 1 + seed%2, Room: 1 + seed%3, Cursors: cursors}, clients, picks...)
	return l
}

// at: a Record of nothing, with these steps.
func at(call, mark, end int) sched.Record {
	return sched.Record{Call: call, Mark: mark, Return: end}
}

// counts: a Record of a call that counts at that step, when all was done at once.
func counts(mark int, op api.Op, r api.Result) sched.Record {
	return sched.Record{Op: op, Result: r, Call: mark, Mark: mark, Return: mark}
}

// TestExamples: P24.2: the chapter's example: of the Records that Play answers none is wrong; nor is anybody Before one ahead, in Order.
func TestExamples(t *testing.T) {
	s := made(t, lower())
	for seed := range 300 {
		cursors := 1 + seed%4
		l := played(t, seed, cursors)
		was := deep(l)
		if i := Wrong(s, cursors, l); i != -1 {
			t.Fatal("Wrong", seed, i, l)
		}
		if !Kept(Order(l)) {
			t.Fatal("Kept", seed, l)
		}
		if !like(l, was) {
			t.Fatal("changed", seed)
		}
	}
}

// TestOrder: P24.1: by rising Marks, of like ones as they come.
func TestOrder(t *testing.T) {
	for _, l := range [][]sched.Record{nil, {}, {at(0, 0, 0)}, {at(0, last, 0)}} {
		if !like(Order(l), l) {
			t.Error("Order", l)
		}
	}
	for seed := range 200 {
		next := chance(seed)
		var l []sched.Record
		for i := range next(40) {
			// What isn't the Mark says nothing of the Order.
			r := at(next(9), next(1+seed%9), next(9))
			r.Client, r.Index, r.Op.Kind, r.Result.ID = next(3), i, next(4), next(4)
			if next(9) == 0 {
				r.Mark = last - next(2)
			}
			l = append(l, r)
		}
		o := Order(l)
		if len(o) != len(l) {
			t.Fatal("Order has", len(o))
		}
		for i, r := range o {
			if !like([]sched.Record{r}, l[r.Index:r.Index+1]) {
				t.Fatal("another Record", r)
			}
			if i > 0 && (o[i-1].Mark > r.Mark || o[i-1].Mark == r.Mark && o[i-1].Index >= r.Index) {
				t.Fatal("another order", o[i-1], r)
			}
		}
	}
	o := Order([]sched.Record{at(1, 3, 4), at(0, last, 1), at(5, 0, 1), at(1, last-1, last)})
	if !like(o, []sched.Record{at(5, 0, 1), at(1, 3, 4), at(1, last-1, last), at(0, last, 1)}) {
		t.Error("Order", o)
	}
}

// TestSame: P24.1: whether both have the same fields, each of them.
func TestSame(t *testing.T) {
	full := api.Result{Err: api.ESTALE, Kind: 1, Size: 2, Where: 3, ID: 4, Text: "t", Names: []string{"a", "b"}, End: true}
	other := api.Result{Err: api.EBADF, Kind: 2, Size: 3, Where: -1, ID: 5, Text: "u", Names: []string{"a"}, End: false}
	for _, base := range []api.Result{full, {}, {Kind: -1, ID: math.MinInt, Text: "\x00"}} {
		for i := range reflect.TypeOf(full).NumField() {
			copied := base
			if !Same(base, copied) {
				t.Error("not Same", base)
			}
			for _, from := range []api.Result{full, other, {}} {
				x := base
				f := reflect.ValueOf(&x).Elem().Field(i)
				f.Set(reflect.ValueOf(from).Field(i))
				if same := reflect.DeepEqual(x, base); Same(x, base) != same || Same(base, x) != same {
					t.Error("Same", base, x, !same)
				}
			}
		}
	}
	rows := [][]string{{"a"}, {"b"}, {""}, {"", ""}, {"a", "b"}, {"b", "a"}, {"a", "b", "c"}, {"ab"}, {"a\x00"}}
	for i, a := range rows {
		for k, b := range rows {
			if Same(api.Result{Names: a}, api.Result{Names: slices.Clone(b)}) != (i == k) {
				t.Error("Same", a, b)
			}
		}
		if Same(api.Result{Names: a}, api.Result{}) || Same(api.Result{}, api.Result{Names: a}) {
			t.Error("Same as none", a)
		}
	}
	if !Same(api.Result{Names: []string{}}, api.Result{}) || !Same(api.Result{}, api.Result{Names: []string{}}) || Same(api.Result{Size: math.MinInt}, api.Result{Size: math.MaxInt}) || Same(api.Result{Text: "a"}, api.Result{Text: "a\x00"}) {
		t.Error("Same at the edges")
	}
}

// TestBefore: P24.1: whether the one's Return is below the other one's Call.
func TestBefore(t *testing.T) {
	for _, x := range []struct {
		end, call int
		want      bool
	}{{0, 0, false}, {0, 1, true}, {1, 0, false}, {4, 5, true}, {5, 5, false}, {6, 5, false}, {last - 1, last, true}, {last, last, false}, {last, last - 1, false}, {0, last, true}, {last, 0, false}} {
		// No other steps say anything.
		for _, n := range []int{0, 1, 5, last} {
			if Before(at(n, n, x.end), at(x.call, n, n)) != x.want {
				t.Error("Before", x)
			}
		}
	}
	if Before(at(3, 2, 1), at(1, 2, 3)) || !Before(at(9, 9, 1), at(2, 0, 0)) {
		t.Error("Before at odd ones")
	}
}

// TestKept: P24.1: whether none is Before one that comes ahead of it, however far ahead.
func TestKept(t *testing.T) {
	a, b, c := at(1, 2, 3), at(4, 5, 6), at(3, 4, 4)
	for _, x := range []struct {
		l    []sched.Record
		want bool
	}{
		{nil, true},
		{[]sched.Record{}, true},
		{[]sched.Record{a}, true},
		// Nobody comes ahead of itself.
		{[]sched.Record{at(9, 0, 1)}, true},
		{[]sched.Record{at(9, 0, 1), at(9, 0, 9)}, true},
		{[]sched.Record{at(9, 0, 1), at(9, 0, 8)}, false},
		{[]sched.Record{a, b}, true},
		{[]sched.Record{b, a}, false},
		{[]sched.Record{a, c, b}, true},
		{[]sched.Record{c, a, b}, true},
		{[]sched.Record{a, b, c}, true},
		{[]sched.Record{b, c, a}, false},
		{[]sched.Record{b, c, c, c, a}, false},
		{[]sched.Record{c, b, a}, false},
		{[]sched.Record{c, b, c, a}, false},
		{[]sched.Record{at(last, 0, last), at(0, 0, last-1)}, false},
		{[]sched.Record{at(last, 0, last), at(0, 0, last)}, true},
		{[]sched.Record{at(1, 0, 1), at(0, 0, 0)}, false},
		{[]sched.Record{at(0, 0, 0), at(0, 0, 0)}, true},
	} {
		if Kept(x.l) != x.want {
			t.Error("Kept", x.l, !x.want)
		}
	}
	kept := 0
	for seed := range 3000 {
		next := chance(seed)
		l := make([]sched.Record, next(9))
		for i := range l {
			l[i] = at(i+next(6), next(9), i+next(6)+2)
		}
		want := true
		for i := range l {
			for k := range i {
				want = want && !Before(l[i], l[k])
			}
		}
		if Kept(l) != want {
			t.Fatal("Kept", l, !want)
		}
		if want {
			kept++
		}
	}
	if kept < 300 || kept > 2700 {
		t.Error("too few of one kind:", kept)
	}
}

// TestSteps: P24.2: a Mark is above the one ahead, or above 0, not below its Call, not above its Return.
func TestSteps(t *testing.T) {
	s := made(t, lower())
	// Each of these calls answers EBADF, whatever was done ahead of it.
	stop := func(call, mark, end int) sched.Record {
		r := at(call, mark, end)
		r.Op, r.Result = api.Op{Kind: api.Close, ID: 5}, api.Result{Err: api.EBADF}
		return r
	}
	for _, x := range []struct {
		l    []sched.Record
		want int
	}{
		{nil, -1},
		{[]sched.Record{}, -1},
		{[]sched.Record{stop(1, 1, 1)}, -1},
		{[]sched.Record{stop(0, 1, 2)}, -1},
		{[]sched.Record{stop(0, 0, 0)}, 0},
		{[]sched.Record{stop(0, 0, 2)}, 0},
		{[]sched.Record{stop(1, 2, 2)}, -1},
		{[]sched.Record{stop(2, 2, 3)}, -1},
		{[]sched.Record{stop(3, 2, 3)}, 0},
		{[]sched.Record{stop(1, 2, 1)}, 0},
		{[]sched.Record{stop(3, 2, 1)}, 0},
		{[]sched.Record{stop(0, last, last)}, -1},
		{[]sched.Record{stop(last, last, last)}, -1},
		{[]sched.Record{stop(0, last, last-1)}, 0},
		{[]sched.Record{stop(last, last-1, last)}, 0},
		{[]sched.Record{stop(1, 1, 9), stop(1, 2, 9), stop(1, 3, 9)}, -1},
		{[]sched.Record{stop(1, 3, 9), stop(1, 1, 9), stop(1, 2, 9)}, -1},
		{[]sched.Record{stop(1, 1, 9), stop(1, 1, 9)}, 1},
		{[]sched.Record{stop(1, 2, 9), stop(1, 1, 9), stop(1, 2, 9)}, 2},
		{[]sched.Record{stop(0, 9, 9), stop(0, 9, 9), stop(0, 0, 9)}, 0},
		{[]sched.Record{stop(0, last, last), stop(0, last, last), stop(0, 1, 1)}, 2},
		{[]sched.Record{stop(1, 1, 9), stop(3, 2, 9), stop(4, 3, 9)}, 1},
		{[]sched.Record{stop(1, 1, 9), stop(1, 3, 9), stop(1, 2, 1)}, 1},
		{[]sched.Record{stop(1, 1, 9), stop(1, 2, 9), stop(9, 3, 3)}, 2},
	} {
		if i := Wrong(s, 1, x.l); i != x.want {
			t.Error("Wrong", x.l, i, "not", x.want)
		}
	}
}

// TestResults: P24.2: each Result is the Same as that of Do, all calls ahead having been done, in Order; none behind it.
func TestResults(t *testing.T) {
	s := made(t, lower())
	add := counts(2, api.Op{Kind: api.Add, Image: imageOf(t, upper())}, api.Result{ID: 1})
	stat := func(mark int) sched.Record {
		return counts(mark, api.Op{Kind: api.Stat, Path: "f"}, api.Result{Kind: api.File, Size: 5})
	}
	gone := func(mark int) sched.Record {
		return counts(mark, api.Op{Kind: api.Stat, Path: "f"}, api.Result{Err: api.ENOENT})
	}
	open := func(mark int, r api.Result) sched.Record {
		return counts(mark, api.Op{Kind: api.Open, Path: "d"}, r)
	}
	page := func(mark int, r api.Result) sched.Record {
		return counts(mark, api.Op{Kind: api.Page, ID: 1, N: 2}, r)
	}
	full, two, end := api.Result{Err: api.EMFILE}, api.Result{Names: []string{"a", "b"}}, api.Result{Names: []string{"c"}, End: true}
	for _, x := range []struct {
		cursors int
		l       []sched.Record
		want    int
	}{
		{1, []sched.Record{stat(1), add, gone(3)}, -1},
		{1, []sched.Record{add, gone(3), stat(1)}, -1},
		{1, []sched.Record{stat(1), add, stat(3)}, 2},
		{1, []sched.Record{stat(3), add, stat(1)}, 2},
		{1, []sched.Record{gone(1), add, gone(3)}, 0},
		{1, []sched.Record{add, gone(3), gone(1)}, 0},
		{1, []sched.Record{stat(1), gone(3)}, 1},
		{1, []sched.Record{open(1, api.Result{ID: 1}), open(2, full)}, -1},
		{0, []sched.Record{open(1, api.Result{ID: 1}), open(2, full)}, -1},
		{2, []sched.Record{open(1, api.Result{ID: 1}), open(2, full)}, 1},
		{2, []sched.Record{open(1, api.Result{ID: 1}), open(2, api.Result{ID: 2}), open(3, full)}, -1},
		{1, []sched.Record{open(1, api.Result{ID: 1}), page(2, two), page(3, end), page(4, api.Result{End: true, Names: []string{}})}, -1},
		{1, []sched.Record{open(1, api.Result{ID: 1}), page(2, two), page(3, two)}, 2},
		{1, []sched.Record{open(1, api.Result{ID: 1}), add, page(3, api.Result{Err: api.ESTALE})}, -1},
		{1, []sched.Record{open(1, api.Result{ID: 1}), add, page(3, two)}, 2},
		{1, []sched.Record{page(1, api.Result{Err: api.EBADF}), open(2, api.Result{ID: 1})}, -1},
		{1, []sched.Record{counts(1, api.Op{}, api.Result{Err: api.EINVAL})}, -1},
		{1, []sched.Record{counts(1, api.Op{}, api.Result{})}, 0},
		// Of a call with an error nothing else is answered.
		{1, []sched.Record{counts(1, api.Op{Kind: 99}, api.Result{Err: api.EINVAL, End: true})}, 0},
	} {
		was := deep(x.l)
		// What was done is of no matter to the Stack, or to the next time.
		for range 2 {
			if i := Wrong(s, x.cursors, x.l); i != x.want {
				t.Error("Wrong", x.cursors, x.l, i, "not", x.want)
			}
		}
		if !like(x.l, was) || s.Len() != 1 {
			t.Error("changed", x.l)
		}
	}
	if Wrong(stack.Stack{}, 1, []sched.Record{gone(1)}) != -1 || Wrong(stack.Stack{}, 1, []sched.Record{stat(1)}) != 0 || Wrong(made(t, lower(), upper()), 1, []sched.Record{gone(1)}) != -1 {
		t.Error("Wrong of other Stacks")
	}
}

// TestAltered: P24.2: of Records that were played, one that is altered is the first one that is wrong.
func TestAltered(t *testing.T) {
	s := made(t, lower())
	for seed := range 200 {
		next, cursors := chance(seed+1000), 1+seed%4
		o := Order(played(t, seed, cursors))
		for range 20 {
			l := deep(o)
			i := next(len(l))
			r := &l[i]
			switch next(9) {
			case 0:
				r.Result.Err ^= 64
			case 1:
				r.Result.Kind--
			case 2:
				r.Result.Size++
			case 3:
				r.Result.Where--
			case 4:
				r.Result.ID += 5
			case 5:
				r.Result.Text += "x"
			case 6:
				r.Result.Names = append(r.Result.Names, "zz")
			case 7:
				r.Result.End = !r.Result.End
			case 8:
				r.Call = r.Mark + 1
			}
			// Where they come in the list is of no matter.
			for k := range l {
				j := next(k + 1)
				l[k], l[j] = l[j], l[k]
			}
			if got := Wrong(s, cursors, l); got != i {
				t.Fatal("Wrong", seed, got, "not", i)
			}
		}
	}
}

// teller is one who answers each call with how many there were, and in which order they came.
type teller struct{ ops []api.Op }

func (a *teller) Do(op api.Op) api.Result {
	a.ops = append(a.ops, op)
	return api.Result{Size: len(a.ops)}
}

// TestAnswerer: P24.2: whoever answers is asked each call once, in order, up to the first wrong one.
func TestAnswerer(t *testing.T) {
	l := make([]sched.Record, 9)
	for i := range l {
		l[i] = counts(i+1, api.Op{Kind: i}, api.Result{Size: i + 1})
	}
	who := &teller{}
	if i := first(who, l); i != -1 || len(who.ops) != 9 {
		t.Error("first", i, who.ops)
	}
	for i, op := range who.ops {
		if op.Kind != i {
			t.Error("asked in another order", who.ops)
		}
	}
	if i := first(who, l); i != 0 {
		t.Error("first of another one", i)
	}
	l[4].Result.Size = 4
	if i := first(&teller{}, l); i != 4 {
		t.Error("first", i)
	}
	// The State of layer 20, by itself or in a Server, is such a one.
	s := made(t, lower())
	stat := []sched.Record{counts(1, api.Op{Kind: api.Stat, Path: "f"}, api.Result{Kind: api.File, Size: 5})}
	for _, who := range []answerer{spec.New(s, 1), server.New(s, server.Config{}), sched.New(s, server.Config{})} {
		if i := first(who, stat); i != -1 {
			t.Error("first of", who, i)
		}
	}
}

// TestPages: P24.3: the Names of a cursor's Pages that are OK, as they come, and the last one's End.
func TestPages(t *testing.T) {
	page := func(id int, e api.Errno, end bool, names ...string) sched.Record {
		return sched.Record{Op: api.Op{Kind: api.Page, ID: id, N: 9}, Result: api.Result{Err: e, Names: names, End: end}}
	}
	other := func(kind int) sched.Record {
		r := page(1, api.OK, true, "x")
		r.Op.Kind = kind
		return r
	}
	l := []sched.Record{page(1, api.OK, true, "b"), other(api.Open), page(2, api.OK, true, "c", "d"), page(1, api.EBADF, true, "no"), page(1, api.OK, false, "a", "b"), other(api.Close), other(0), page(1, api.ESTALE, true), page(3, api.OK, false), page(-1, api.OK, true, ""), page(2, api.OK, false), page(4, api.ESTALE, true, "no"), page(0, api.OK, false, "z")}
	for _, x := range []struct {
		id    int
		names []string
		end   bool
	}{
		{1, []string{"b", "a", "b"}, false},
		{2, []string{"c", "d"}, false},
		{3, nil, false},
		{4, nil, false},
		{5, nil, false},
		{0, []string{"z"}, false},
		{-1, []string{""}, true},
		{math.MaxInt, nil, false},
		{math.MinInt, nil, false},
	} {
		if names, end := Pages(l, x.id); !slices.Equal(names, x.names) || end != x.end {
			t.Error("Pages", x.id, names, end)
		}
	}
	// The last one that is OK says it, even if it has no names, or another error comes behind it.
	for n, want := range []bool{false, true, true, true, true, false} {
		if _, end := Pages(l[:n], 1); end != want {
			t.Error("End", n, end)
		}
	}
	if _, end := Pages([]sched.Record{page(1, api.OK, false, "a"), page(1, api.OK, true), page(1, api.EBADF, false)}, 1); !end {
		t.Error("End of an empty page")
	}
	// Where they count, or end, is of no matter to the order.
	a, b := page(1, api.OK, true, "a"), page(1, api.OK, false, "b")
	a.Mark, a.Call, a.Return = 9, 9, 9
	if names, end := Pages([]sched.Record{a, b}, 1); !slices.Equal(names, []string{"a", "b"}) || end {
		t.Error("Pages", names, end)
	}
	if names, end := Pages(nil, 1); len(names) != 0 || end {
		t.Error("Pages of nothing")
	}
}

// TestPagesPlayed: P24.3: pages of one cursor by many clients are, in Order, the beginning of all that is seen in its directory.
func TestPagesPlayed(t *testing.T) {
	var names []string
	for i := range 26 {
		names = append(names, string(rune('a'+i)))
	}
	s := made(t, tree.Dir(names, slices.Repeat([]api.Node{tree.Dir(nil)}, 26)...))
	page := func(n int) api.Op { return api.Op{Kind: api.Page, ID: 1, N: n} }
	clients := [][]api.Op{{{Kind: api.Open, Path: "/"}, page(3), page(1), page(9)}, {page(2), page(2), page(5)}, {page(1), {Kind: api.Add, Image: imageOf(t, upper())}, page(9)}}
	for seed := range 200 {
		next := chance(seed)
		var picks []int
		for range 60 {
			picks = append(picks, next(3)*next(3)%3)
		}
		l, _ := sched.Play(s, server.Config{Shards: 1, Room: 1, Cursors: 1}, clients, picks...)
		got, end := Pages(Order(l), 1)
		if len(got) > 24 || !slices.Equal(got, names[:len(got)]) || end {
			t.Error("Pages", seed, got, end)
		}
	}
}

// TestAnswered: P2: what is answered is new memory, and what is handed in, with its spare room, isn't changed.
func TestAnswered(t *testing.T) {
	names := []string{"a", "b", "spare"}
	l := []sched.Record{counts(2, api.Op{Kind: api.Page, ID: 1}, api.Result{Names: names[:2]}), counts(1, api.Op{Kind: api.Page, ID: 1}, api.Result{Names: names[1:2]}), counts(9, api.Op{}, api.Result{})}
	was := deep(l)
	o, again := Order(l[:2]), Order(l[:2])
	got, _ := Pages(l[:2], 1)
	Wrong(stack.Stack{}, 1, l[:2])
	Kept(l[:2])
	Same(l[0].Result, l[1].Result)
	for _, list := range [][]string{o[0].Result.Names, o[1].Result.Names, got} {
		_ = append(list, "zz")
		clear(list)
	}
	_ = append(o, sched.Record{Client: 9})
	clear(o)
	if !like(l, was) || !slices.Equal(names, []string{"a", "b", "spare"}) || !like(again, []sched.Record{was[1], was[0]}) {
		t.Error("shared:", l, names, again)
	}
	// A single page isn't handed on as it is.
	got, _ = Pages(l[:1], 1)
	clear(got)
	if !slices.Equal(names, []string{"a", "b", "spare"}) {
		t.Error("shared:", names)
	}
	o = Order(l[:1])
	clear(o[0].Result.Names)
	o[0].Mark = 7
	if !like(l, was) {
		t.Error("shared:", l)
	}
}

// TestAllArguments: P1: all calls end, and none panics, whatever they are given.
func TestAllArguments(t *testing.T) {
	numbers := []int{math.MinInt, -1 << 32, -1, 0, 1, 2, last, 1 << 32, math.MaxInt}
	texts := []string{"", "a", "/", "n", "..", "\x00", "\xff", strings.Repeat("/..", 341), strings.Repeat("../", 342), imageOf(t, upper()), imageOf(t, upper())[3:]}
	nothing, _, _ := stack.Stack{}.Add(nil)
	for seed := range 400 {
		next := chance(seed)
		number := func() int { return numbers[next(len(numbers))] }
		text := func() string { return texts[next(len(texts))] }
		var l []sched.Record
		for i := range next(30) {
			r := sched.Record{Client: number(), Index: number(), Call: number(), Mark: number(), Return: number()}
			r.Op = api.Op{Kind: next(14) - 2, Path: text(), Off: number(), N: number(), ID: number(), Image: text()}
			r.Result = api.Result{Err: api.Errno(number()), Kind: number(), Size: number(), Where: number(), ID: number(), Text: text(), Names: texts[:next(4)], End: next(2) > 0}
			if seed%2 == 0 {
				// So that more than the first one is done.
				r.Call, r.Mark, r.Return, r.Result = 0, i+1, last, api.Result{Err: api.EINVAL}
			}
			l = append(l, r)
		}
		for _, s := range []stack.Stack{made(t, lower()), {}, nothing} {
			if i := Wrong(s, number(), l); i < -1 || i >= len(l) {
				t.Error("Wrong", i)
			}
		}
		if o := Order(l); len(o) != len(l) {
			t.Error("Order has", len(o))
		}
		Kept(l)
		Pages(l, number())
		for i := range l {
			Before(l[i], l[0])
			Same(l[i].Result, l[0].Result)
		}
	}
}
