package report

import (
	"fmt"
	"math"
	"reflect"
	"slices"
	"strings"
	"testing"

	"socage/api"
	"socage/call"
	"socage/image"
	"socage/sched"
	"socage/script"
	"socage/server"
	"socage/spec"
	"socage/stack"
	"socage/tale"
	"socage/tree"
)

// made: the Stack of trees, the uppermost one last.
func made(t *testing.T, trees ...api.Node) stack.Stack {
	t.Helper()
	s, e := stack.Of(trees...)
	if e != api.OK {
		t.Fatal(e)
	}
	return s
}

// imageOf: a tree as bytes.
func imageOf(t *testing.T, n api.Node) string {
	t.Helper()
	s, e := image.Encode(n)
	if e != api.OK {
		t.Fatal(e)
	}
	return s
}

// lower: a tree with directories, files and links.
func lower() api.Node {
	return tree.Dir([]string{"d", "e", "f", "l", "m", "n"}, tree.Dir([]string{"a", "b", "c"}, tree.Text("1"), tree.Link("../e/x"), tree.Dir(nil)), tree.Dir(nil), tree.Text("hello"), tree.Link("d"), tree.Link("/d/../f"), tree.Link("n"))
}

// upper: what hides some of that, and has some more.
func upper() api.Node {
	return tree.Dir([]string{"d", "e", "f"}, tree.Dir([]string{"a", "z"}, tree.White(), tree.Text("22")), tree.Opaque(tree.Dir([]string{"x"}, tree.Text("333"))), tree.White())
}

// like: two rows of Records are the same; a list without items may be nil or not.
func like(a, b []sched.Record) bool {
	return slices.EqualFunc(a, b, func(a, b sched.Record) bool {
		names := slices.Equal(a.Result.Names, b.Result.Names)
		a.Result.Names, b.Result.Names = nil, nil
		return names && reflect.DeepEqual(a, b)
	})
}

// chance: numbers below n, of a row of its own for each seed.
func chance(seed int) func(n int) int {
	x := uint32(seed*2 + 1)
	return func(n int) int {
		x = x*1664525 + 1013904223
		return int(x>>8) % n
	}
}

// none: a Report of nothing but an error.
func none(r Report, line int, e api.Errno) bool {
	return r.Line == line && r.Err == e && len(r.Records) == 0 && r.Wrong == -1 && r.Epoch == 0 && reflect.ValueOf(r.Stack).IsZero() && r.Cursors == 0
}

// TestExamples: P26.1, P26.2: the chapter's example, written out.
func TestExamples(t *testing.T) {
	text := "room 1 1 1\nclient\nclose 5\n"
	if s := Run(text); s != "0 0 1 1 1 error 9\nend 0 0 0\n" {
		t.Errorf("Run: %q", s)
	}
	r := Play(text)
	want := []sched.Record{{Op: api.Op{Kind: api.Close, ID: 5}, Result: api.Result{Err: api.EBADF}, Call: 1, Mark: 1, Return: 1}}
	if r.Line != 0 || r.Err != api.OK || !like(r.Records, want) || r.Wrong != -1 || r.Epoch != 0 || r.Stack.Len() != 0 || r.Cursors != 0 {
		t.Errorf("Play: %+v", r)
	}
}

// TestNoScript: P26.1, P26.2: the Line that is none, ErrWord, and -1.
func TestNoScript(t *testing.T) {
	good := call.Hex(imageOf(t, lower()))
	for text, line := range map[string]int{
		"":                                1,
		"\n":                              1,
		"fly\n":                           1,
		"room 1 1\n":                      1,
		"room 1 1 1":                      1,
		"room 1 1 1\nfly\n":               2,
		"room 1 1 1\n\n":                  2,
		"room 1 1 1\nimage 0\n":           2,
		"room 1 1 1\nimage " + good:       2,
		"room 1 1 1\nclient\nclose 1":     3,
		"room 1 1 1\npick 0\nclient\n":    3,
		"room 1 1 1\nimage 00\nfly\n":     3, // of an image that is none, too
		"room 1 1 1\nclient\nclose 1\n ":  4,
		"room 1 1 1\nclient\nadd 0\nfly":  3,
		"room 1 1 1\nclient\nclient\nfly": 4,
		"room 1 1 1\n" + strings.Repeat("image "+good+"\n", 65) + "fly\n":  67,
		"room 1 1 1\nclient\n" + strings.Repeat("close 1\n", 1000) + "fly": 1003,
	} {
		if r := Play(text); !none(r, line, api.ErrWord) {
			t.Errorf("Play(%.60q): %+v", text, r)
		}
		if s, want := Run(text), fmt.Sprintf("error %d 10\n", line); s != want {
			t.Errorf("Run(%.60q): %q, not %q", text, s, want)
		}
	}
}

// TestNoStack: P26.1, P26.2: the error of the images, of which none is a line; the limit, and one beyond.
func TestNoStack(t *testing.T) {
	good, bad := "image "+call.Hex(imageOf(t, lower()))+"\n", "image 00\n"
	for _, x := range []struct {
		images string
		want   api.Errno
	}{
		{bad, api.EINVAL}, {"image -\n", api.EINVAL}, {good + bad, api.EINVAL}, {bad + good, api.EINVAL},
		{strings.Repeat(good, 64) + bad, api.EINVAL}, {strings.Repeat(good, 65), api.ENOSPC}, {strings.Repeat(good, 65) + bad, api.ENOSPC}, {bad + strings.Repeat(good, 65), api.EINVAL},
	} {
		// Nothing is played then.
		for _, more := range []string{"", "client\nopen /\nadd -\npick 0 0 0\n"} {
			text := "room 1 1 1\n" + x.images + more
			if r := Play(text); !none(r, 0, x.want) {
				t.Errorf("Play: %+v", r)
			}
			if s, want := Run(text), fmt.Sprintf("error 0 %d\n", x.want); s != want {
				t.Errorf("Run: %q, not %q", s, want)
			}
		}
	}
	if s := Run("room 1 1 1\n" + strings.Repeat(good, 64)); s != "end 0 64 0\n" {
		t.Errorf("Run of 64 images: %q", s)
	}
}

// TestRun: P26.1, P26.2: scripts, and what is told of them, written out: what is begun is picked on to the end.
func TestRun(t *testing.T) {
	low, up := call.Hex(imageOf(t, lower())), call.Hex(imageOf(t, upper()))
	for _, x := range []struct{ script, want string }{
		{"room 1 1 1", "end 0 0 0"},
		{"room 0 -1 -9223372036854775808", "end 0 0 0"},
		{"room 1 1 1|image LOW|image UP", "end 0 2 0"},
		{"room 1 1 1|client|client", "end 0 0 0"},
		{"room 1 1 1|pick 0 1 -1 64", "end 0 0 0"},
		{"room 1 1 1|client|lookup /", "0 0 1 3 6 ok 2 -1|end 0 0 0"},
		{"room 1 1 1|client|open /", "0 0 1 5 6 ok 1|end 0 0 1"},
		{"room 1 1 1|client|close 1|close 2|client|close 3", "0 0 1 1 1 error 9|1 0 2 2 2 error 9|0 1 3 3 3 error 9|end 0 0 0"},
		{"room 1 1 1|client|close 1|close 2|client|close 3|pick 0 0", "0 0 1 1 1 error 9|0 1 2 2 2 error 9|1 0 3 3 3 error 9|end 0 0 0"},
		{"room 1 1 1|client|close 1|close 2|client|close 3|pick 2 1 1 0", "1 0 1 1 1 error 9|0 0 2 2 2 error 9|0 1 3 3 3 error 9|end 0 0 0"},
		{"room 1 1 1|client|read -1 1 /", "0 0 1 1 1 error 1|end 0 0 0"},
		{"room 1 1 1|client|read 0 1 " + strings.Repeat("/", 1025), "0 0 1 3 5 error 1|end 0 0 0"},
		// 1 is in at step 3, so that 0 can't be at 4 and 6.
		{"room 2 2 2|image LOW|client|stat f|client|remove 0|pick 1", "1 0 1 5 7 ok|0 0 2 9 13 error 2|end 1 0 0"},
	} {
		text := strings.ReplaceAll(strings.ReplaceAll(strings.ReplaceAll(x.script, "LOW", low), "UP", up), "|", "\n") + "\n"
		if s, want := Run(text), strings.ReplaceAll(x.want, "|", "\n")+"\n"; s != want {
			t.Errorf("Run of %s: %q, not %q", x.script, s, want)
		}
	}
}

// TestEnd: P26.1: the Epoch, the Stack, and how many Cursors are open, at the end; one client, so that calls are done one behind the other.
func TestEnd(t *testing.T) {
	low, up := call.Hex(imageOf(t, lower())), call.Hex(imageOf(t, upper()))
	for _, x := range []struct {
		cursors int
		calls   string
		want    string
		epoch   int
		ids     []int
		open    int
	}{
		{1, "", "", 0, []int{0}, 0},
		{1, "add UP", "ok 1", 1, []int{1, 0}, 0},
		{1, "add UP|remove 0", "ok 1|ok", 2, []int{1}, 0},
		{1, "remove 0", "ok", 1, nil, 0},
		{1, "remove 0|add UP|add UP", "ok|ok 1|ok 2", 3, []int{2, 1}, 0},
		{1, "remove 1|add 00", "error 2|error 1", 0, []int{0}, 0},
		{1, "open /", "ok 1", 0, []int{0}, 1},
		{1, "open /|open d", "ok 1|error 7", 0, []int{0}, 1},
		{0, "open /|open d", "ok 1|error 7", 0, []int{0}, 1},
		{2, "open /|open d", "ok 1|ok 2", 0, []int{0}, 2},
		{3, "open /|open d|close 1|open e", "ok 1|ok 2|ok|ok 3", 0, []int{0}, 2},
		{3, "open /|close 1", "ok 1|ok", 0, []int{0}, 0},
		{1, "open x|open f", "error 2|error 3", 0, []int{0}, 0},
		{1, "open l|page 1 2|page 1 9|add UP|page 1 9", "ok 1|ok 61 62|ok end 63|ok 1|error 8", 1, []int{1, 0}, 1},
		{1, "stat f|add UP|stat f|lookup d/z|read 0 9 d/z|remove 1|readlink m|stat f", "ok 1 5|ok 1|error 2|ok 1 1|ok 3232|ok|ok 2f642f2e2e2f66|ok 1 5", 2, []int{0}, 0},
	} {
		text := fmt.Sprintf("room 3 2 %d\nimage %s\nclient\n", x.cursors, low) + strings.ReplaceAll(strings.ReplaceAll(x.calls, "UP", up), "|", "\n")
		if x.calls != "" {
			text += "\n"
		}
		r := Play(text)
		var shown []string
		for _, y := range r.Records {
			shown = append(shown, call.Show(y.Op.Kind, y.Result))
		}
		if s := strings.Join(shown, "|"); s != x.want {
			t.Errorf("Play of %s: %s, not %s", x.calls, s, x.want)
		}
		var ids []int
		for k := range r.Stack.Len() {
			ids = append(ids, r.Stack.ID(k))
		}
		if r.Line != 0 || r.Err != api.OK || r.Wrong != -1 || r.Epoch != x.epoch || !slices.Equal(ids, x.ids) || r.Cursors != x.open {
			t.Errorf("Play of %s ends with %d, %v, %d, %d", x.calls, r.Epoch, ids, r.Cursors, r.Wrong)
		}
		if s, want := Run(text), fmt.Sprintf("end %d %d %d\n", x.epoch, len(x.ids), x.open); !strings.HasSuffix(s, want) || strings.Count(s, "\n") != len(shown)+1 {
			t.Errorf("Run of %s: %q", x.calls, s)
		}
	}
}

// some: a Script with clients that stand in each other's way.
func some(t *testing.T, seed int) script.Script {
	next := chance(seed)
	low, up := imageOf(t, lower()), imageOf(t, upper())
	s := script.Script{Config: server.Config{Shards: next(4), Room: next(4), Cursors: next(5)}, Images: [][]string{{low}, {low, up}, {up, low}, nil}[next(4)]}
	paths := []string{"", "/", "d", "l/a", "m", "d/b", "n", "e/x", "x/y", "l/c/../..", "d/z"}
	for range next(6) {
		var ops []api.Op
		for range next(8) {
			path, id := paths[next(len(paths))], next(4)
			ops = append(ops, []api.Op{
				{Kind: api.Lookup, Path: path}, {Kind: api.Stat, Path: path}, {Kind: api.Readlink, Path: path}, {Kind: api.ReadAt, Path: path, Off: next(3) - 1, N: next(9)},
				{Kind: api.Open, Path: path}, {Kind: api.Open, Path: path}, {Kind: api.Page, ID: id, N: next(4)}, {Kind: api.Page, ID: id, N: 2}, {Kind: api.Close, ID: id},
				{Kind: api.Add, Image: []string{low, up, "x"}[next(3)]}, {Kind: api.Remove, ID: id},
			}[next(11)])
		}
		s.Clients = append(s.Clients, ops)
	}
	for range next(2) * next(200) {
		s.Picks = append(s.Picks, next(7)-next(2))
	}
	return s
}

// TestPlay: P26.1: Records, Wrong, Epoch, Stack and Cursors as those whose calls these are say; and at the end all is as if the calls were done one behind the other.
func TestPlay(t *testing.T) {
	for seed := range 600 {
		s := some(t, seed)
		of, e := script.Stack(s.Images...)
		if e != api.OK {
			t.Fatal(e)
		}
		l, x := sched.Play(of, s.Config, s.Clients, s.Picks...)
		r := Play(script.Print(s))
		if r.Line != 0 || r.Err != api.OK || !like(r.Records, l) || r.Wrong != tale.Wrong(of, s.Config.Cursors, l) || r.Wrong != -1 {
			t.Fatalf("Play of %d: %+v", seed, r)
		}
		if r.Epoch != x.Epoch || r.Stack.Len() != x.Stack.Len() || r.Cursors != x.Server.State.Len() {
			t.Fatal("Play of", seed, "ends with", r.Epoch, r.Stack.Len(), r.Cursors)
		}
		state := spec.New(of, s.Config.Cursors)
		for _, y := range tale.Order(r.Records) {
			state.Do(y.Op)
		}
		if r.Epoch != state.Epoch || r.Stack.Len() != state.Stack.Len() || r.Cursors != state.Len() {
			t.Fatal("Play of", seed, "isn't as one behind the other:", r.Epoch, r.Stack.Len(), r.Cursors)
		}
		for k := range r.Stack.Len() {
			if r.Stack.ID(k) != state.Stack.ID(k) || r.Stack.At(k).Count() != state.Stack.At(k).Count() {
				t.Fatal("Play of", seed, "has another branch at", k)
			}
		}
	}
}

// TestMany: P26.1: of more than 64 clients those at first play; branches up to the limit and one beyond.
func TestMany(t *testing.T) {
	var b strings.Builder
	b.WriteString("room 1 1 1\n")
	for i := range 70 {
		fmt.Fprintf(&b, "client\nclose %d\n", i)
	}
	r := Play(b.String())
	if len(r.Records) != 64 || r.Records[63].Client != 63 || r.Records[63].Op.ID != 63 || r.Wrong != -1 {
		t.Error("Play of 70 clients:", len(r.Records))
	}
	up := call.Hex(imageOf(t, upper()))
	s := Run("room 1 1 1\n" + strings.Repeat("image "+up+"\n", 63) + "client\nadd " + up + "\nadd " + up + "\nremove 0\nadd " + up + "\n")
	l := strings.Split(s, "\n")
	if len(l) != 6 || !strings.HasSuffix(l[0], " ok 63") || !strings.HasSuffix(l[1], " error 6") || !strings.HasSuffix(l[2], " ok") || !strings.HasSuffix(l[3], " ok 64") || l[4] != "end 3 64 0" {
		t.Errorf("Run of many branches: %q", s)
	}
}

// TestLine: P26.2: all numbers, and what is answered, as its Op's Kind says; nothing else of the Op.
func TestLine(t *testing.T) {
	full := api.Result{Kind: 2, Size: 30, Where: -4, ID: 50, Text: "t\x00", Names: []string{"a", "", "bc"}, End: true}
	for _, x := range []struct {
		r    sched.Record
		want string
	}{
		{sched.Record{}, "0 0 0 0 0 ok\n"},
		{sched.Record{Client: 1, Index: 2, Call: 3, Mark: 4, Return: 5, Op: api.Op{Kind: api.Lookup, Path: "p"}, Result: full}, "1 2 3 4 5 ok 2 -4\n"},
		{sched.Record{Client: 63, Index: 1 << 31, Call: 10, Mark: 100, Return: 1000, Op: api.Op{Kind: api.Stat}, Result: full}, "63 2147483648 10 100 1000 ok 2 30\n"},
		{sched.Record{Client: 5, Index: 4, Call: 3, Mark: 2, Return: 1, Op: api.Op{Kind: api.Readlink}, Result: full}, "5 4 3 2 1 ok 7400\n"},
		{sched.Record{Client: 5, Op: api.Op{Kind: api.ReadAt, Off: 7, N: 8, ID: 9}}, "5 0 0 0 0 ok -\n"},
		{sched.Record{Index: 5, Op: api.Op{Kind: api.Open, ID: 9}, Result: full}, "0 5 0 0 0 ok 50\n"},
		{sched.Record{Call: 5, Op: api.Op{Kind: api.Page}, Result: full}, "0 0 5 0 0 ok end 61 - 6263\n"},
		{sched.Record{Mark: 5, Op: api.Op{Kind: api.Page}}, "0 0 0 5 0 ok\n"},
		{sched.Record{Return: 5, Op: api.Op{Kind: api.Close}, Result: full}, "0 0 0 0 5 ok\n"},
		{sched.Record{Op: api.Op{Kind: api.Add, Image: "x"}, Result: full}, "0 0 0 0 0 ok 50\n"},
		{sched.Record{Op: api.Op{Kind: api.Remove}, Result: full}, "0 0 0 0 0 ok\n"},
		{sched.Record{Op: api.Op{Kind: 99}, Result: full}, "0 0 0 0 0 ok\n"},
		{sched.Record{Client: -1, Index: math.MinInt, Call: -3, Mark: math.MaxInt, Return: -5, Op: api.Op{Kind: api.Page}, Result: api.Result{Err: api.ESTALE, Names: []string{"a"}}}, "-1 -9223372036854775808 -3 9223372036854775807 -5 error 8\n"},
		{sched.Record{Op: api.Op{Kind: math.MinInt}, Result: api.Result{Err: -12}}, "0 0 0 0 0 error -12\n"},
	} {
		if s := Line(x.r); s != x.want {
			t.Errorf("Line of %+v: %q, not %q", x.r, s, x.want)
		}
	}
}

// TestText: P26.2: of Reports that are made here: an error alone; or Records as they come, wrong, if it isn't below 0, and the end.
func TestText(t *testing.T) {
	a, b := sched.Record{Client: 1, Return: 9, Mark: 9, Result: api.Result{Err: 3}}, sched.Record{Client: 2, Mark: 1}
	two := made(t, lower(), upper())
	for _, x := range []struct {
		r    Report
		want string
	}{
		{Report{}, "wrong 0\nend 0 0 0\n"},
		{Report{Wrong: -1}, "end 0 0 0\n"},
		{Report{Wrong: -2}, "end 0 0 0\n"},
		{Report{Wrong: math.MinInt, Epoch: 1, Stack: two, Cursors: 3}, "end 1 2 3\n"},
		{Report{Wrong: 7, Epoch: math.MinInt, Stack: two, Cursors: math.MaxInt}, "wrong 7\nend -9223372036854775808 2 9223372036854775807\n"},
		{Report{Line: 4, Wrong: -1, Records: []sched.Record{a, b}}, "1 0 0 9 9 error 3\n2 0 0 1 0 ok\nend 0 0 0\n"},
		{Report{Wrong: 1, Records: []sched.Record{b, a, b}, Epoch: 10, Cursors: 1024}, "2 0 0 1 0 ok\n1 0 0 9 9 error 3\n2 0 0 1 0 ok\nwrong 1\nend 10 0 1024\n"},
		{Report{Line: 12, Err: api.ErrWord, Wrong: -1}, "error 12 10\n"},
		{Report{Err: api.EINVAL, Wrong: 5, Records: []sched.Record{a}, Epoch: 1, Stack: two, Cursors: 3}, "error 0 1\n"},
		{Report{Line: math.MinInt, Err: -1}, "error -9223372036854775808 -1\n"},
		{Report{Line: math.MaxInt, Err: math.MaxInt}, "error 9223372036854775807 9223372036854775807\n"},
	} {
		if s := x.r.Text(); s != x.want {
			t.Errorf("Text of %+v: %q, not %q", x.r, s, x.want)
		}
	}
}

// TestRunText: P26.2: Run is Text of Play, and that the Lines of its Records.
func TestRunText(t *testing.T) {
	for seed := range 200 {
		text := script.Print(some(t, seed+1000))
		// Some of these aren't whole.
		if seed%5 == 0 {
			text = text[:len(text)*3/4]
		}
		r := Play(text)
		want := r.Text()
		if s := Run(text); s != want || Run(text) != s {
			t.Fatalf("Run of %d: %q, not %q", seed, s, want)
		}
		var b strings.Builder
		for _, x := range r.Records {
			b.WriteString(Line(x))
		}
		if r.Err == api.OK && want != b.String()+fmt.Sprintf("end %d %d %d\n", r.Epoch, r.Stack.Len(), r.Cursors) {
			t.Fatalf("Text of %d: %q", seed, want)
		}
		if r.Err != api.OK && want != fmt.Sprintf("error %d 10\n", r.Line) {
			t.Fatalf("Text of %d: %q", seed, want)
		}
	}
}

// TestApart: P2: what is answered is new memory, what is handed in isn't changed, and nothing is kept.
func TestApart(t *testing.T) {
	names := []string{"a", "b", "spare"}
	records := []sched.Record{{Op: api.Op{Kind: api.Page}, Result: api.Result{Names: names[:2]}}, {Client: 1}, {Client: 9}}
	r := Report{Wrong: -1, Records: records[:2]}
	text := r.Text()
	Line(records[0])
	if r.Text() != text || !slices.Equal(names, []string{"a", "b", "spare"}) || records[1].Client != 1 || records[2].Client != 9 || len(r.Records) != 2 {
		t.Error("changed:", records, names)
	}
	play := "room 2 9 9\nimage " + call.Hex(imageOf(t, lower())) + "\nclient\nopen d\npage 1 2\nopen d\npage 2 2\nadd " + call.Hex(imageOf(t, upper())) + "\n"
	a, b := Play(play), Play(play)
	want := Run(play)
	for _, x := range a.Records {
		_ = append(x.Result.Names, "zz")
	}
	if a.Text() != want {
		t.Error("lists of one answer share:", a.Text())
	}
	for _, x := range a.Records {
		clear(x.Result.Names)
	}
	clear(a.Records)
	if b.Text() != want || Run(play) != want {
		t.Error("answers share:", b.Text())
	}
	// The Stack is one of its own: what is done to it is of no matter elsewhere.
	if s, e := b.Stack.Remove(0); e != api.OK || s.Len() != 1 || b.Stack.Len() != 2 || b.Text() != want {
		t.Error("Remove:", e)
	}
	// What was no script, or played ahead, is of no matter to the next one.
	Play("room 1 1 1\nfly\n")
	if Run(play) != want {
		t.Error("Run:", Run(play))
	}
}

// TestAllArguments: P1: all calls end, and none panics, whatever they are given.
func TestAllArguments(t *testing.T) {
	numbers := []int{math.MinInt, -1 << 32, -1, 0, 1, 2, 1 << 32, math.MaxInt}
	texts := []string{"", "a", "/", "n", "..", "\x00", "\xff", "d\n", strings.Repeat("/..", 341), strings.Repeat("../", 342), imageOf(t, upper()), imageOf(t, upper())[3:]}
	nothing, _, _ := stack.Stack{}.Add(nil)
	for seed := range 400 {
		next := chance(seed)
		number := func() int { return numbers[next(len(numbers))] }
		text := func() string { return texts[next(len(texts))] }
		op := func() api.Op {
			return api.Op{Kind: next(14) - 2, Path: text(), Off: number(), N: number(), ID: number(), Image: text()}
		}
		s := script.Script{Config: server.Config{Shards: number(), Room: number(), Cursors: number()}, Images: []string{imageOf(t, lower()), text()}[:next(3)]}
		r := Report{Line: number(), Err: api.Errno(number() * next(2)), Wrong: number(), Epoch: number(), Stack: []stack.Stack{{}, nothing}[next(2)], Cursors: number()}
		for range next(8) {
			s.Clients = append(s.Clients, []api.Op{op(), op(), op()})
			s.Picks = append(s.Picks, number(), next(8))
			r.Records = append(r.Records, sched.Record{Client: number(), Index: number(), Op: op(), Call: number(), Mark: number(), Return: number(), Result: api.Result{Err: api.Errno(number()), Kind: number(), Size: number(), Where: number(), ID: number(), Text: text(), Names: texts[:next(4)], End: next(2) > 0}})
		}
		r.Text()
		// Calls whose lines tell all of them are played, whatever their numbers.
		for i, ops := range s.Clients {
			s.Clients[i] = slices.DeleteFunc(ops, func(op api.Op) bool { _, ok := call.Parse(call.Text(op)); return !ok })
		}
		whole := script.Print(s)
		if x := Play(whole); x.Err != api.OK && x.Err != api.EINVAL || x.Wrong != -1 {
			t.Errorf("Play of %d: %v, %d", seed, x.Err, x.Wrong)
		}
		Run(text() + "\n" + text())
		Run("room 1 1 1\n" + text())
		at := next(len(whole) + 1)
		Run(whole[:at])
		Run(whole[:at] + text() + whole[at:])
	}
}
