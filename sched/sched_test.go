package sched

import (
	"math"
	"reflect"
	"slices"
	"strings"
	"testing"

	"socage/api"
	"socage/image"
	"socage/server"
	"socage/spec"
	"socage/stack"
	"socage/task"
	"socage/tree"
)

// one is room for one of each.
var one = server.Config{Shards: 1, Room: 1, Cursors: 1}

// made: the Stack of trees, the uppermost one last.
func made(t *testing.T, trees ...api.Node) stack.Stack {
	t.Helper()
	s, e := stack.Of(trees...)
	if e != api.OK {
		t.Fatal(e)
	}
	return s
}

// imageOf: a tree as bytes.
func imageOf(t *testing.T, n api.Node) string {
	t.Helper()
	s, e := image.Encode(n)
	if e != api.OK {
		t.Fatal(e)
	}
	return s
}

// lower: a tree with directories, files and links.
func lower() api.Node {
	return tree.Dir([]string{"d", "e", "f", "l", "m", "n"}, tree.Dir([]string{"a", "b", "c"}, tree.Text("1"), tree.Link("../e/x"), tree.Dir(nil)), tree.Dir(nil), tree.Text("hello"), tree.Link("d"), tree.Link("/d/../f"), tree.Link("n"))
}

// upper: what hides some of that, and has some more.
func upper() api.Node {
	return tree.Dir([]string{"d", "e", "f"}, tree.Dir([]string{"a", "z"}, tree.White(), tree.Text("22")), tree.Opaque(tree.Dir([]string{"x"}, tree.Text("333"))), tree.White())
}

// is: two Results are the same; a list without items may be nil or not.
func is(a, b api.Result) bool {
	names := slices.Equal(a.Names, b.Names)
	a.Names, b.Names = nil, nil
	return names && reflect.DeepEqual(a, b)
}

// like: two rows of Records are the same.
func like(a, b []Record) bool {
	return slices.EqualFunc(a, b, func(a, b Record) bool {
		same := is(a.Result, b.Result)
		a.Result, b.Result = api.Result{}, api.Result{}
		return same && reflect.DeepEqual(a, b)
	})
}

// picks: each pick of a client, told by a number, answers as its sign says: + true, - false; and the Clock is as many more as were picked, but those told by x, which do nothing.
func picks(t *testing.T, x *Sched, row string) {
	t.Helper()
	for _, w := range strings.Fields(row) {
		i, clock, records := int(w[0]-'0'), x.Clock(), x.Records()
		if ok := x.Pick(i); ok != (w[1] == '+') {
			t.Errorf("Pick(%d) at %d: %v", i, clock+1, ok)
		}
		if w[1] == 'x' {
			if x.Clock() != clock || !like(x.Records(), records) {
				t.Errorf("Pick(%d) at %d did something", i, clock)
			}
		} else if x.Clock() != clock+1 {
			t.Errorf("Clock: %d, not %d", x.Clock(), clock+1)
		}
	}
}

// has: these are its Records, and who of its clients is Busy.
func has(t *testing.T, x *Sched, busy bool, want ...Record) {
	t.Helper()
	if l := x.Records(); !like(l, want) {
		t.Errorf("Records: %v, not %v", l, want)
	}
	if x.Busy() != busy {
		t.Error("Busy:", !busy)
	}
}

// TestExamples: P23.2, P23.3: the chapter's example, written out.
func TestExamples(t *testing.T) {
	op := api.Op{Kind: api.Close, ID: 1}
	l, x := Play(made(t, lower()), one, [][]api.Op{{op}, {op}}, 1, 0)
	want := []Record{{Client: 1, Op: op, Result: api.Result{Err: api.EBADF}, Call: 1, Mark: 1, Return: 1}, {Client: 0, Op: op, Result: api.Result{Err: api.EBADF}, Call: 2, Mark: 2, Return: 2}}
	if !like(l, want) {
		t.Error("Play:", l)
	}
	has(t, x, false, want...)
}

// TestClients: P23.1: a client of each list of calls, the first 64 of them.
func TestClients(t *testing.T) {
	for many, want := range map[int]int{0: 0, 1: 1, 2: 2, 63: 63, 64: 64, 65: 64, 200: 64} {
		clients := make([][]api.Op, many)
		for i := range clients {
			clients[i] = []api.Op{{Kind: api.Remove, ID: i}}
		}
		x := New(made(t, lower()), one, clients...)
		if x.Clients() != want || x.Clock() != 0 || x.Busy() != (many > 0) || len(x.Records()) != 0 {
			t.Error("New of", many, "has", x.Clients())
		}
		if x.Pick(want) || x.Clock() != 0 || !x.Rest() || x.Clients() != want || len(x.Records()) != want {
			t.Error("Rest of", many, len(x.Records()))
		}
		for _, r := range x.Records() {
			if r.Op.ID != r.Client || r.Index != 0 {
				t.Error("another one's call:", r)
			}
		}
	}
	if MaxClients != 64 {
		t.Error("MaxClients:", MaxClients)
	}
}

// TestBusy: P23.1: whether one of them has a call that hasn't ended.
func TestBusy(t *testing.T) {
	stop := []api.Op{{Kind: api.Close}}
	for _, y := range []struct {
		clients [][]api.Op
		row     string
		busy    bool
	}{
		{nil, "0x", false},
		{[][]api.Op{nil}, "0x 1x", false},
		{[][]api.Op{{}, nil, {}}, "2x 1x 0x", false},
		{[][]api.Op{stop}, "", true},
		{[][]api.Op{stop}, "0+", false},
		{[][]api.Op{nil, stop}, "0x", true},
		{[][]api.Op{nil, stop}, "1+ 1x", false},
		{[][]api.Op{stop, nil, stop}, "2+ 2x", true},
		{[][]api.Op{stop, nil, stop}, "0+ 0x 1x", true},
		{[][]api.Op{stop, nil, stop}, "0+ 2+", false},
		{[][]api.Op{{{}, {}, {}}}, "0+ 0+", true},
		{[][]api.Op{{{}, {}, {}}}, "0+ 0+ 0+ 0x", false},
		{[][]api.Op{{{Kind: api.Remove}}}, "0+ 0+ 0+", true},
		{[][]api.Op{{{Kind: api.Remove}}}, "0+ 0+ 0+ 0+ 0x", false},
	} {
		x := New(made(t, lower()), one, y.clients...)
		picks(t, x, y.row)
		if x.Busy() != y.busy {
			t.Error("Busy:", x.Busy(), y.row)
		}
	}
}

// TestServer: P23.1: the Server is layer 21's New of that Stack and Config, and nothing has been done to it.
func TestServer(t *testing.T) {
	s := made(t, lower(), upper())
	ops := []api.Op{{Kind: api.Lookup, Path: "l/z"}, {Kind: api.Open, Path: "d"}, {Kind: api.Page, ID: 1, N: 9}, {Kind: api.Open, Path: "e"}, {Kind: api.Lookup, Path: "l/z"}}
	for _, c := range []server.Config{{}, one, {Shards: 256, Room: 3, Cursors: 1024}, {Shards: 7, Room: 1, Cursors: 5}, {Shards: -1, Room: -1, Cursors: -1}, {Shards: 257, Room: 9, Cursors: 1025}} {
		x, y := New(s, c, ops), server.New(s, c)
		names, lists := x.Full()
		hits, misses, made := x.Hits()
		if x.Epoch != 0 || x.Room() != y.Room() || x.Len()+x.Held()+x.Readers()+x.Writers()+x.Waiting() != 0 || names+lists+hits+misses+made != 0 {
			t.Error("the Server isn't New", c)
		}
		for _, n := range []string{"a", "b", "c", "d", "e"} {
			if x.NameLock("/", n) != y.NameLock("/", n) || x.ListLock(n) != y.ListLock(n) {
				t.Error("other shards", c)
			}
		}
		for k := range 3 {
			if x.Stack.At(k) != s.At(k) || x.Stack.ID(k) != s.ID(k) {
				t.Error("another Stack")
			}
		}
		// What is remembered has as much room, too.
		x.Rest()
		for _, op := range ops {
			for k := task.New(y, op, 0); k.Step(); {
			}
		}
		hits, misses, made = x.Hits()
		if h, m, n := y.Hits(); h != hits || m != misses || n != made || x.Len() != y.Len() {
			t.Error("Hits:", hits, misses, made, "not", h, m, n)
		}
	}
}

// TestPick: P23.2: the steps are those of layer 22, each picked one has a number, whether it could be done or not.
func TestPick(t *testing.T) {
	stat, remove := api.Op{Kind: api.Stat, Path: "f"}, api.Op{Kind: api.Remove}
	x := New(made(t, lower()), one, []api.Op{stat}, []api.Op{remove})
	picks(t, x, "0+ 0+ 1+ 1- 1- 0+ 0+ 1+")
	has(t, x, true)
	if !x.In(1) || x.Epoch != 0 {
		t.Error("who has waited isn't in")
	}
	picks(t, x, "0+ 1+ 0+ 1+ 1x 1x")
	second := Record{Client: 1, Op: remove, Call: 3, Mark: 10, Return: 12}
	has(t, x, true, second)
	picks(t, x, "2x 0+ 0+ 0x 1x")
	// What was there when it counted is what is answered.
	has(t, x, false, second, Record{Client: 0, Op: stat, Result: api.Result{Kind: api.File, Size: 5}, Call: 1, Mark: 6, Return: 14})
	if x.Clock() != 14 || x.Epoch != 1 {
		t.Error("Clock, Epoch:", x.Clock(), x.Epoch)
	}
}

// TestNobody: P23.2: who isn't there isn't picked.
func TestNobody(t *testing.T) {
	x := New(made(t, lower()), one, []api.Op{{Kind: api.Remove}}, nil)
	for range 2 {
		for _, i := range []int{math.MinInt, -1 << 32, -1, 1, 2, 63, 64, 65, 1 << 32, math.MaxInt} {
			if x.Pick(i) || x.Clock() > 1 || len(x.Records()) != 0 || !x.Busy() {
				t.Error("Pick", i)
			}
		}
		x.Pick(0)
	}
	many := make([][]api.Op, 65)
	for i := range many {
		many[i] = []api.Op{{Kind: api.Close}}
	}
	x = New(made(t, lower()), one, many...)
	if x.Pick(64) || x.Clock() != 0 || !x.Pick(63) || x.Pick(63) || x.Clock() != 1 {
		t.Error("the last one")
	}
}

// TestNext: P23.2: a call is begun when it is picked, not when the one ahead of it ends; each has steps of its own.
func TestNext(t *testing.T) {
	open, page := api.Op{Kind: api.Open, Path: "/"}, api.Op{Kind: api.Page, ID: 1, N: 4}
	stop, bad := api.Op{Kind: api.Close, ID: 1}, api.Op{Kind: 10}
	x := New(made(t, lower()), one, []api.Op{open, page, bad}, []api.Op{bad, stop})
	picks(t, x, "0+ 0+ 0+ 0+ 0+ 1+")
	first := Record{Client: 1, Op: bad, Result: api.Result{Err: api.EINVAL}, Call: 6, Mark: 6, Return: 6}
	has(t, x, true, first)
	picks(t, x, "0+")
	second := Record{Op: open, Result: api.Result{ID: 1}, Call: 1, Mark: 5, Return: 7}
	has(t, x, true, first, second)
	if x.Len() != 1 || x.In(0) {
		t.Error("the next one has begun")
	}
	// Nobody's next call is looked at ahead of the one that hasn't ended.
	picks(t, x, "0+ 0+ 0+ 0+ 0+ 0+ 1+ 1x 0+")
	third := Record{Client: 1, Index: 1, Op: stop, Call: 14, Mark: 14, Return: 14}
	fourth := Record{Index: 1, Op: page, Result: api.Result{Names: []string{"d", "e", "f", "l"}}, Call: 8, Mark: 13, Return: 15}
	has(t, x, true, first, second, third, fourth)
	picks(t, x, "1x 0+ 0x")
	has(t, x, false, first, second, third, fourth, Record{Index: 2, Op: bad, Result: api.Result{Err: api.EINVAL}, Call: 16, Mark: 16, Return: 16})
}

// TestNumbers: P23.2: at the gate and at locks each client is told by its number.
func TestNumbers(t *testing.T) {
	clients := make([][]api.Op, 64)
	for i := range clients {
		clients[i] = []api.Op{{Kind: api.Open, Path: "d"}}
	}
	x := New(made(t, lower()), server.Config{Shards: 1, Room: 1, Cursors: 64}, clients...)
	for _, i := range []int{0, 1, 40, 63} {
		if x.Pick(i); x.In(i) {
			t.Error("in already", i)
		}
		if x.Pick(i); !x.In(i) || x.Readers() == 0 {
			t.Error("not in", i)
		}
	}
	for range 3 {
		x.Pick(63)
	}
	if l := x.NameLock("/", "d"); x.Held() != 1 || x.Give(l, 0) || !x.Give(l, 63) || !x.Take(l, 63) || !x.Rest() || x.Len() != 64 {
		t.Error("the lock is another one's")
	}
}

// TestRest: P23.3: all are picked, from 0 on, round by round, whoever can go on, and who can't; what was picked by then stays.
func TestRest(t *testing.T) {
	stat := api.Op{Kind: api.Stat, Path: "f"}
	five := api.Result{Kind: api.File, Size: 5}
	x := New(made(t, lower()), one, []api.Op{stat}, nil, []api.Op{stat})
	if !x.Rest() || x.Clock() != 17 {
		t.Error("Rest, Clock:", x.Clock())
	}
	// At 12 the lock is held.
	all := []Record{{Op: stat, Result: five, Call: 1, Mark: 5, Return: 15}, {Client: 2, Op: stat, Result: five, Call: 2, Mark: 6, Return: 17}}
	has(t, x, false, all...)
	for range 2 {
		if !x.Rest() || x.Clock() != 17 {
			t.Error("Rest of nobody, Clock:", x.Clock())
		}
		has(t, x, false, all...)
	}
	x = New(made(t, lower()), one, []api.Op{{Kind: 0}, stat}, []api.Op{{Kind: api.Remove}})
	picks(t, x, "1+ 1+")
	if !x.Rest() {
		t.Error("Rest")
	}
	// Who writes is out at 6, and who reads is in at 7.
	has(t, x, false,
		Record{Result: api.Result{Err: api.EINVAL}, Call: 3, Mark: 3, Return: 3},
		Record{Client: 1, Op: api.Op{Kind: api.Remove}, Call: 1, Mark: 4, Return: 6},
		Record{Index: 1, Op: stat, Result: api.Result{Err: api.ENOENT}, Call: 5, Mark: 8, Return: 12})
	for _, y := range []*Sched{New(made(t), one), New(made(t), one, nil, nil)} {
		if !y.Rest() || y.Clock() != 0 {
			t.Error("Rest of nobody")
		}
	}
}

// TestStuck: P23.3, P1: where nobody can go on, as somebody else is in, Rest ends with false, whoever of the clients has ended by then.
func TestStuck(t *testing.T) {
	x := New(made(t, lower()), one, []api.Op{{Kind: api.Remove}, {Kind: api.Close}}, []api.Op{{Kind: api.Close}, {Kind: api.Stat, Path: "/"}})
	x.Read(99)
	// Two rounds in which somebody goes on, and one in which nobody does.
	if x.Rest() || !x.Busy() || x.Clock() != 6 || len(x.Records()) != 1 {
		t.Error("Rest, Clock:", x.Clock())
	}
	if x.Rest() || x.Clock() != 8 {
		t.Error("Rest again, Clock:", x.Clock())
	}
	x.Leave(99)
	if !x.Rest() || x.Busy() || len(x.Records()) != 4 {
		t.Error("Rest at last")
	}
}

// some: what may be asked for.
func some(t *testing.T) []api.Op {
	var ops []api.Op
	for _, path := range []string{"", "/", "d", "l/a", "m", "d/b", "n", "e/x", "x/y", "l/c/../..", "d/z"} {
		for _, kind := range []int{api.Lookup, api.Stat, api.Readlink, api.ReadAt, api.Open} {
			ops = append(ops, api.Op{Kind: kind, Path: path, Off: len(path) % 2, N: 3})
		}
	}
	for id := range 12 {
		ops = append(ops, api.Op{Kind: api.Page, ID: id, N: 1 + id%3}, api.Op{Kind: api.Page, ID: id, N: 1}, api.Op{Kind: api.Close, ID: id}, api.Op{Kind: api.Remove, ID: id})
	}
	add := imageOf(t, upper())
	for i := range 16 {
		ops = append(ops, api.Op{Kind: api.Add, Image: add[:len(add)-i%8/7]}, api.Op{Kind: api.Open, Path: "d"})
	}
	return append(ops, api.Op{}, api.Op{Kind: 10}, api.Op{Kind: api.Page, ID: 1}, api.Op{Kind: api.ReadAt, Path: "f", Off: -1})
}

// chance: numbers below n, of a row of its own for each seed.
func chance(seed int) func(n int) int {
	x := uint32(seed*2 + 1)
	return func(n int) int {
		x = x*1664525 + 1013904223
		return int(x>>8) % n
	}
}

// party: so many clients, each with up to most calls.
func party(ops []api.Op, many, most int, next func(int) int) [][]api.Op {
	clients := make([][]api.Op, many)
	for i := range clients {
		for range next(most + 1) {
			clients[i] = append(clients[i], ops[next(len(ops))])
		}
	}
	return clients
}

// hand is clients whose Tasks are stepped by hand, on a Server of their own.
type hand struct {
	s     *server.Server
	left  [][]api.Op
	tasks []*task.Task
	now   []Record
	ended []Record
	clock int
}

// byHand: nobody has begun.
func byHand(s stack.Stack, c server.Config, clients [][]api.Op) *hand {
	h := &hand{s: server.New(s, c), left: slices.Clone(clients), tasks: make([]*task.Task, len(clients)), now: make([]Record, len(clients))}
	for i := range h.now {
		h.now[i].Client = i
	}
	return h
}

// pick: a step of one of them.
func (h *hand) pick(i int) bool {
	if i < 0 || i >= len(h.left) || len(h.left[i]) == 0 {
		return false
	}
	h.clock++
	r, op := &h.now[i], h.left[i][0]
	if h.tasks[i] == nil {
		h.tasks[i], r.Call = task.New(h.s, op, i), h.clock
	}
	x := h.tasks[i]
	marked := x.Marked()
	ok := x.Step()
	if x.Marked() && !marked {
		r.Mark = h.clock
	}
	if x.Done() {
		r.Op, r.Result, r.Return = op, x.Result(), h.clock
		h.ended = append(h.ended, *r)
		h.tasks[i], h.left[i] = nil, h.left[i][1:]
		*r = Record{Client: i, Index: r.Index + 1}
	}
	return ok
}

// busy: whether anybody has a call left.
func (h *hand) busy() bool {
	return slices.ContainsFunc(h.left, func(ops []api.Op) bool { return len(ops) > 0 })
}

// TestHand: P23.2, P23.3: as clients are picked, so go their Tasks, one step each.
func TestHand(t *testing.T) {
	ops, s := some(t), made(t, lower())
	for seed := range 300 {
		next := chance(seed)
		many := 1 + next(6)
		c := server.Config{Shards: 1 + seed%3, Room: 1 + seed%4, Cursors: 1 + seed%5}
		clients := party(ops, many, 6, next)
		x, h := New(s, c, clients...), byHand(s, c, clients)
		var row []int
		for range next(300) {
			i := next(many+2) - 1
			row = append(row, i)
			if x.Pick(i) != h.pick(i) || x.Clock() != h.clock || x.Busy() != h.busy() || len(x.Records()) != len(h.ended) {
				t.Fatal("Pick", seed, i, x.Clock(), h.clock)
			}
		}
		if !like(x.Records(), h.ended) {
			t.Fatal("Records", seed)
		}
		for h.busy() {
			for i := range many {
				h.pick(i)
			}
		}
		l, y := Play(s, c, clients, row...)
		if !x.Rest() || !like(x.Records(), h.ended) || x.Clock() != h.clock || !like(l, h.ended) || y.Clock() != h.clock || !like(y.Records(), h.ended) {
			t.Fatal("Rest, Play", seed)
		}
		alike(t, x.Server, h.s)
		alike(t, y.Server, h.s)
	}
}

// alike: two Servers are at the same end.
func alike(t *testing.T, a, b *server.Server) {
	t.Helper()
	i, j, k := a.Hits()
	u, v, w := b.Hits()
	if a.Epoch != b.Epoch || a.Stack.Len() != b.Stack.Len() || a.Len() != b.Len() || i != u || j != v || k != w {
		t.Error("other Servers")
	}
	if a.Held()+a.Readers()+a.Writers()+a.Waiting() != 0 {
		t.Error("something is held")
	}
}

// TestSteps: P23.2: all calls are recorded, each once, each client's in their order; the steps of each lie between its beginning and its end, and no two count at one.
func TestSteps(t *testing.T) {
	ops, s := some(t), made(t, lower())
	for seed := range 100 {
		next := chance(seed)
		clients := party(ops, 1+next(9), 8, next)
		var row []int
		for range next(400) {
			row = append(row, next(len(clients)))
		}
		l, x := Play(s, server.Config{Shards: 1 + seed%2, Room: 1, Cursors: 3}, clients, row...)
		counted, ended := map[int]bool{}, make([]Record, len(clients))
		last := 0
		for _, r := range l {
			was := ended[r.Client]
			if was.Return > 0 && r.Index != was.Index+1 || was.Return == 0 && r.Index != 0 || r.Call <= was.Return || r.Op != clients[r.Client][r.Index] {
				t.Fatal("another order", seed, r)
			}
			if r.Call < 1 || r.Mark < r.Call || r.Return < r.Mark || counted[r.Mark] || r.Return <= last || r.Return > x.Clock() {
				t.Fatal("other steps", seed, r)
			}
			ended[r.Client], counted[r.Mark], last = r, true, r.Return
		}
		for i, c := range clients {
			if len(c) > 0 && ended[i].Index != len(c)-1 {
				t.Fatal("calls are missing", seed, i)
			}
		}
		if len(l) > 0 && last != x.Clock() {
			t.Fatal("Clock:", x.Clock(), "not", last)
		}
	}
}

// TestPromised: P23.2, P22.3: at the step at which a call counts, it is answered as by layer 20's Do.
func TestPromised(t *testing.T) {
	ops, s := some(t), made(t, lower())
	for seed := range 100 {
		next := chance(seed)
		clients := party(ops, 1+next(9), 8, next)
		var row []int
		for range next(400) {
			row = append(row, next(len(clients)))
		}
		l, _ := Play(s, server.Config{Shards: 2, Room: 1 + seed%3, Cursors: 2}, clients, row...)
		slices.SortFunc(l, func(a, b Record) int { return a.Mark - b.Mark })
		p := spec.New(s, 2)
		for _, r := range l {
			if want := p.Do(r.Op); !is(r.Result, want) {
				t.Fatal("it answers", r, "not", want)
			}
		}
	}
}

// TestRounds: P23.4: in each round somebody goes on, as long as somebody is Busy, also of all 64, at one shard.
func TestRounds(t *testing.T) {
	ops, s := some(t), made(t, lower())
	add := api.Op{Kind: api.Add, Image: imageOf(t, upper())}
	write := []api.Op{add, {Kind: api.Remove}, add, {Kind: api.Remove, ID: 1}}
	read := []api.Op{{Kind: api.Open, Path: "d"}, {Kind: api.Page, ID: 1, N: 1}, {Kind: api.Stat, Path: "n"}}
	for seed := range 12 {
		next := chance(seed)
		clients := party(ops, 64, 5, next)
		switch seed {
		case 0:
			clients = slices.Repeat([][]api.Op{write}, 64)
		case 1:
			clients = slices.Repeat([][]api.Op{read}, 64)
		case 2:
			clients = slices.Repeat([][]api.Op{write, read}, 32)
		}
		c := server.Config{Shards: 1 + seed/8, Room: 1 + seed%3, Cursors: 1 + seed}
		x, y := New(s, c, clients...), New(s, c, clients...)
		for i := range seed * 9 {
			x.Pick(i * i % 64)
			y.Pick(i * i % 64)
		}
		for x.Busy() {
			on := false
			for i := range 64 {
				on = x.Pick(i) || on
			}
			if !on {
				t.Fatal("nobody goes on", seed, x.Clock())
			}
		}
		if !y.Rest() || x.Clock() != y.Clock() || !like(x.Records(), y.Records()) {
			t.Error("Rest goes another way", seed)
		}
	}
}

// TestPlay: P23.3: of picks all are picked, also those that are nobody's, and then the rest.
func TestPlay(t *testing.T) {
	remove, stat := api.Op{Kind: api.Remove}, api.Op{Kind: api.Stat, Path: "/"}
	dir := api.Result{Kind: api.Dir}
	behind := []Record{{Client: 1, Op: remove, Call: 1, Mark: 3, Return: 4}, {Op: stat, Result: dir, Call: 5, Mark: 7, Return: 10}}
	for _, y := range []struct {
		picks []int
		want  []Record
	}{
		{[]int{1, 1, 1, 1}, behind},
		{[]int{1, 1, 1, 1, 0, 0, 0, 0, 0, 0, 0, 0, 1}, behind},
		{[]int{-1, 1, 2, 1, 99, 1, math.MinInt, 1, 1, math.MaxInt}, behind},
		// Who reads is out at 7, who waits from 4 on is in at 8.
		{nil, []Record{{Op: stat, Result: dir, Call: 1, Mark: 5, Return: 11}, {Client: 1, Op: remove, Call: 2, Mark: 10, Return: 12}}},
	} {
		l, x := Play(made(t, lower()), one, [][]api.Op{{stat}, {remove}}, y.picks...)
		if !like(l, y.want) || x.Clients() != 2 || x.Clock() != y.want[1].Return || x.Epoch != 1 {
			t.Error("Play:", l, x.Clock())
		}
		has(t, x, false, y.want...)
	}
	if l, x := Play(stack.Stack{}, server.Config{}, nil, 0, 1); len(l) != 0 || x.Clients() != 0 || x.Clock() != 0 {
		t.Error("Play of nobody")
	}
	if l, x := Play(stack.Stack{}, one, make([][]api.Op, 70), 0); len(l) != 0 || x.Clients() != 64 || x.Clock() != 0 {
		t.Error("Play of no calls")
	}
}

// TestHandedIn: P2: what is handed in, with its spare room, is neither changed nor kept.
func TestHandedIn(t *testing.T) {
	stat, stop, bad := api.Op{Kind: api.Stat, Path: "f"}, api.Op{Kind: api.Close, ID: 3}, api.Op{Kind: 33}
	ops := []api.Op{stat, stop, bad}
	clients := [][]api.Op{ops[:2], ops[1:2], {bad}, {stop}}
	row := []int{0, 1, 0, 2, 2}
	l, _ := Play(made(t, lower()), one, clients[:3], row[:3]...)
	x := New(made(t, lower()), one, clients[:3]...)
	x.Pick(row[0])
	if !slices.Equal(ops, []api.Op{stat, stop, bad}) || len(clients[0]) != 2 || len(clients[1]) != 1 || !slices.Equal(clients[2], []api.Op{bad}) || !slices.Equal(clients[3], []api.Op{stop}) || !slices.Equal(row, []int{0, 1, 0, 2, 2}) {
		t.Error("changed:", ops, clients, row)
	}
	clear(ops)
	clear(clients[2])
	clear(clients)
	x.Pick(row[1])
	x.Pick(row[2])
	x.Rest()
	has(t, x, false, l...)
	none := api.Result{Err: api.EBADF}
	if want := []Record{
		{Client: 1, Op: stop, Result: none, Call: 2, Mark: 2, Return: 2},
		{Client: 2, Op: bad, Result: api.Result{Err: api.EINVAL}, Call: 5, Mark: 5, Return: 5},
		{Op: stat, Result: api.Result{Kind: api.File, Size: 5}, Call: 1, Mark: 4, Return: 10},
		{Index: 1, Op: stop, Result: none, Call: 11, Mark: 11, Return: 11},
	}; !like(l, want) {
		t.Error("Play:", l)
	}
}

// TestAnswered: P2: what is answered shares nothing with another answer, or with what is kept.
func TestAnswered(t *testing.T) {
	open, page := api.Op{Kind: api.Open, Path: "d"}, api.Op{Kind: api.Page, ID: 1, N: 2}
	clients := [][]api.Op{{open, page, page}}
	want := []Record{
		{Op: open, Result: api.Result{ID: 1}, Call: 1, Mark: 7, Return: 8},
		{Index: 1, Op: page, Result: api.Result{Names: []string{"a", "b"}}, Call: 9, Mark: 14, Return: 15},
		{Index: 2, Op: page, Result: api.Result{Names: []string{"c"}, End: true}, Call: 16, Mark: 21, Return: 22},
	}
	l, x := Play(made(t, lower()), one, clients)
	for _, other := range [][]Record{l, x.Records()} {
		_ = append(other[:1], Record{Client: 9})
		for _, r := range other {
			_ = append(r.Result.Names, "zz")
			clear(r.Result.Names)
		}
		clear(other)
	}
	has(t, x, false, want...)
	// What is answered ahead of the end isn't changed by what comes later.
	x = New(made(t, lower()), one, clients...)
	for len(x.Records()) < 2 {
		x.Pick(0)
	}
	early := x.Records()
	x.Rest()
	clear(x.Records()[0:2])
	if len(early) != 2 || !slices.Equal(early[1].Result.Names, []string{"a", "b"}) || len(x.Records()) != 3 {
		t.Error("Records:", early)
	}
}

// TestApart: P2: Scheds of one Stack have nothing in common, and that isn't changed.
func TestApart(t *testing.T) {
	s := made(t, lower())
	x, y := New(s, one, []api.Op{{Kind: api.Remove}}), New(s, one, []api.Op{{Kind: api.Stat, Path: "f"}, {Kind: api.Open, Path: "d"}})
	x.Rest()
	if y.Clock() != 0 || !y.Busy() || y.Epoch != 0 || s.Len() != 1 || x.Stack.Len() != 0 {
		t.Error("one has changed the other")
	}
	y.Rest()
	if l := y.Records(); len(l) != 2 || l[0].Result.Size != 5 || l[1].Result.ID != 1 || x.Len() != 0 || len(x.Records()) != 1 {
		t.Error("Records:", y.Records())
	}
}

// TestAllArguments: P1: all calls end, and none panics, whatever is asked, and whoever is picked.
func TestAllArguments(t *testing.T) {
	numbers := []int{math.MinInt, -1 << 32, -1, 0, 1, 2, 1 << 32, math.MaxInt}
	texts := []string{"", "a", "d", "/", "l/a", "n", "..", "\x00", "\xff", strings.Repeat("/..", 341), strings.Repeat("../", 342), imageOf(t, upper()), imageOf(t, upper())[3:]}
	nothing, _, _ := stack.Stack{}.Add(nil)
	kinds := append([]int{3, 4, 5, 6, 7, 8, 9, 10}, numbers...)
	var clients [][]api.Op
	total := 0
	for i, text := range texts {
		var ops []api.Op
		for _, kind := range kinds {
			for k, n := range numbers {
				ops = append(ops, api.Op{Kind: kind, Path: text, Image: text, ID: n, Off: numbers[(k+i)%8], N: n})
			}
		}
		clients, total = append(clients, ops), total+len(ops)
	}
	for _, st := range []stack.Stack{made(t, lower()), {}, nothing} {
		for _, n := range numbers {
			l, x := Play(st, server.Config{Shards: n, Room: n, Cursors: n}, clients, numbers...)
			if len(l) != total || x.Busy() || !x.Rest() {
				t.Error("no end", n)
			}
		}
	}
	// Of one that nobody has made nothing is promised but that its own calls end.
	x := &Sched{}
	if x.Pick(0) || x.Busy() || x.Clients() != 0 || x.Clock() != 0 || len(x.Records()) != 0 || !x.Rest() {
		t.Error("the zero one")
	}
}
