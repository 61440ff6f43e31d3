package script

import (
	"fmt"
	"math"
	"math/big"
	"reflect"
	"regexp"
	"slices"
	"strings"
	"testing"

	"socage/api"
	"socage/call"
	"socage/image"
	"socage/server"
	"socage/stack"
	"socage/tree"
)

// imageOf: a tree as bytes.
func imageOf(t *testing.T, n api.Node) string {
	t.Helper()
	s, e := image.Encode(n)
	if e != api.OK {
		t.Fatal(e)
	}
	return s
}

// is: two Scripts are the same; a list without items may be nil or not.
func is(a, b Script) bool {
	return a.Config == b.Config && slices.Equal(a.Images, b.Images) && slices.EqualFunc(a.Clients, b.Clients, slices.Equal[[]api.Op]) && slices.Equal(a.Picks, b.Picks)
}

// zero: the zero Script.
func zero(s Script) bool { return reflect.ValueOf(s).IsZero() }

// chance: numbers below n, of a row of its own for each seed.
func chance(seed int) func(n int) int {
	x := uint32(seed*2 + 1)
	return func(n int) int {
		x = x*1664525 + 1013904223
		return int(x>>8) % n
	}
}

// told is a Script, and its Print.
type told struct {
	s    Script
	text string
}

// tolds: Scripts with all kinds of lines, with none of a kind, and with the edges of what is in lines, written out.
func tolds() []told {
	least, most := math.MinInt, math.MaxInt
	return []told{
		{Script{}, "room 0 0 0\n"},
		{Script{Config: server.Config{Shards: 1, Room: 2, Cursors: 3}}, "room 1 2 3\n"},
		{Script{Config: server.Config{Shards: -1, Room: least, Cursors: most}}, "room -1 -9223372036854775808 9223372036854775807\n"},
		{Script{Config: server.Config{Shards: 256, Room: 1 << 31, Cursors: 1024}, Picks: []int{}}, "room 256 2147483648 1024\n"},
		{Script{Images: []string{""}}, "room 0 0 0\nimage -\n"},
		{Script{Images: []string{"\x00\xff", "", "-", "ab"}}, "room 0 0 0\nimage 00ff\nimage -\nimage 2d\nimage 6162\n"},
		{Script{Clients: [][]api.Op{nil}}, "room 0 0 0\nclient\n"},
		{Script{Clients: [][]api.Op{{}, {}, {}}}, "room 0 0 0\nclient\nclient\nclient\n"},
		{Script{Picks: []int{0}}, "room 0 0 0\npick 0\n"},
		{Script{Picks: []int{0, -1, 64, 64, least, most}}, "room 0 0 0\npick 0 -1 64 64 -9223372036854775808 9223372036854775807\n"},
		{Script{Images: []string{"i"}, Picks: []int{1, 1}}, "room 0 0 0\nimage 69\npick 1 1\n"},
		{Script{Config: server.Config{Shards: 1, Room: 1, Cursors: 1}, Clients: [][]api.Op{{{Kind: api.Close, ID: 5}}}}, "room 1 1 1\nclient\nclose 5\n"},
		{Script{Clients: [][]api.Op{{{Kind: api.Lookup, Path: "client"}, {Kind: api.Stat}, {Kind: api.Readlink, Path: " /a b "}, {Kind: api.Open, Path: "\x00\xff\r"}}}}, "room 0 0 0\nclient\nlookup client\nstat \nreadlink  /a b \nopen \x00\xff\r\n"},
		{Script{Clients: [][]api.Op{{}, {{Kind: api.ReadAt, Off: -3, N: most}, {Kind: api.ReadAt, N: 9, Path: "pick 1"}}, {}, {{Kind: api.Page, ID: 1, N: least}}, {}}}, "room 0 0 0\nclient\nclient\nread -3 9223372036854775807 \nread 0 9 pick 1\nclient\nclient\npage 1 -9223372036854775808\nclient\n"},
		{Script{Images: []string{"\n"}, Clients: [][]api.Op{{{Kind: api.Add}, {Kind: api.Add, Image: "\n"}, {Kind: api.Remove, ID: -7}}, {{Kind: api.Page}}}, Picks: []int{1, 0}}, "room 0 0 0\nimage 0a\nclient\nadd -\nadd 0a\nremove -7\nclient\npage 0 0\npick 1 0\n"},
	}
}

// TestExamples: P25.1, P25.2: the chapter's example: one client, and its call.
func TestExamples(t *testing.T) {
	s, bad := Parse("room 1 1 1\nclient\nclose 5\n")
	want := Script{Config: server.Config{Shards: 1, Room: 1, Cursors: 1}, Clients: [][]api.Op{{{Kind: api.Close, ID: 5}}}}
	if bad != 0 || !is(s, want) {
		t.Error("Parse:", s, bad)
	}
	if text := Print(want); text != "room 1 1 1\nclient\nclose 5\n" {
		t.Errorf("Print: %q", text)
	}
}

// TestTold: P25.1, P25.2: Print of Scripts, as they are written out, and Parse of that.
func TestTold(t *testing.T) {
	for _, x := range tolds() {
		if text := Print(x.s); text != x.text {
			t.Errorf("Print of %+v: %q, not %q", x.s, text, x.text)
		}
		if s, bad := Parse(x.text); bad != 0 || !is(s, x.s) {
			t.Errorf("Parse(%q): %+v, %d", x.text, s, bad)
		}
	}
}

// some: a Script that can be told, of all that there may be.
func some(seed int) Script {
	next := chance(seed)
	numbers := []int{0, 1, -1, 2, 9, 10, -10, 63, 64, 100, 1 << 31, math.MaxInt, math.MinInt}
	number := func() int { return numbers[next(len(numbers))] }
	texts := []string{"", "a", " ", "/", "-", "a  b", "client", "pick 0", "room 0 0 0", "image -", "\r", "\x00\xff", "é", "/d/../l"}
	text := func() string { return texts[next(len(texts))] }
	ops := []func() api.Op{
		func() api.Op { return api.Op{Kind: api.Lookup, Path: text()} },
		func() api.Op { return api.Op{Kind: api.Stat, Path: text()} },
		func() api.Op { return api.Op{Kind: api.Readlink, Path: text()} },
		func() api.Op { return api.Op{Kind: api.ReadAt, Off: number(), N: number(), Path: text()} },
		func() api.Op { return api.Op{Kind: api.Open, Path: text()} },
		func() api.Op { return api.Op{Kind: api.Page, ID: number(), N: number()} },
		func() api.Op { return api.Op{Kind: api.Close, ID: number()} },
		func() api.Op { return api.Op{Kind: api.Add, Image: text() + "\n"[:next(2)]} },
		func() api.Op { return api.Op{Kind: api.Remove, ID: number()} },
	}
	s := Script{Config: server.Config{Shards: number(), Room: number(), Cursors: number()}}
	for range next(4) {
		s.Images = append(s.Images, text()+"\n"[:next(2)])
	}
	for range next(5) {
		var l []api.Op
		for range next(5) {
			l = append(l, ops[next(len(ops))]())
		}
		s.Clients = append(s.Clients, l)
	}
	for range next(3) * next(9) {
		s.Picks = append(s.Picks, number())
	}
	return s
}

// plainHex is what the chapter of layer 19 says of Hex.
func plainHex(s string) string {
	if s == "" {
		return "-"
	}
	return fmt.Sprintf("%x", s)
}

// plainLine is what it says of a call's line.
func plainLine(op api.Op) string {
	return map[int]string{
		api.Lookup:   fmt.Sprint("lookup ", op.Path),
		api.Stat:     fmt.Sprint("stat ", op.Path),
		api.Readlink: fmt.Sprint("readlink ", op.Path),
		api.ReadAt:   fmt.Sprintf("read %d %d %s", op.Off, op.N, op.Path),
		api.Open:     fmt.Sprint("open ", op.Path),
		api.Page:     fmt.Sprintf("page %d %d", op.ID, op.N),
		api.Close:    fmt.Sprintf("close %d", op.ID),
		api.Add:      fmt.Sprint("add ", plainHex(op.Image)),
		api.Remove:   fmt.Sprintf("remove %d", op.ID),
	}[op.Kind]
}

// plainPrint is what the chapter says of Print, line by line.
func plainPrint(s Script) string {
	lines := []string{fmt.Sprintf("room %d %d %d", s.Config.Shards, s.Config.Room, s.Config.Cursors)}
	for _, x := range s.Images {
		lines = append(lines, "image "+plainHex(x))
	}
	for _, ops := range s.Clients {
		lines = append(lines, "client")
		for _, op := range ops {
			lines = append(lines, plainLine(op))
		}
	}
	if len(s.Picks) > 0 {
		lines = append(lines, "pick "+strings.Trim(fmt.Sprint(s.Picks), "[]"))
	}
	return strings.Join(lines, "\n") + "\n"
}

// TestSome: P25.1, P25.2: Scripts of all kinds of lines, one behind the other; and every beginning of their Prints that ends with a line is one too, and no other one.
func TestSome(t *testing.T) {
	for seed := range 2000 {
		s := some(seed)
		text := Print(s)
		if want := plainPrint(s); text != want {
			t.Fatalf("Print of %+v: %q, not %q", s, text, want)
		}
		if x, bad := Parse(text); bad != 0 || !is(x, s) {
			t.Fatalf("Parse(%q): %+v, %d", text, x, bad)
		}
		if seed%10 > 0 {
			continue
		}
		for i := range text {
			begin := text[:i]
			x, bad := Parse(begin)
			if strings.HasSuffix(begin, "\n") {
				if bad != 0 || Print(x) != begin {
					t.Fatalf("Parse(%q): %+v, %d", begin, x, bad)
				}
			} else if bad != strings.Count(begin, "\n")+1 || !zero(x) {
				t.Fatalf("Parse(%q), not ended: %+v, %d", begin, x, bad)
			}
		}
	}
}

// whole: what the Print of a Script that can be told is, but for how great its numbers are: N is a number, H a word of layer 19's Hex.
var whole = regexp.MustCompile(strings.NewReplacer("N", "(0|-?[1-9][0-9]*)", "H", "(-|([0-9a-f][0-9a-f])+)").Replace(
	`\Aroom N N N\n(image H\n)*(client\n((lookup|stat|readlink|open) [^\n]*\n|read N N [^\n]*\n|page N N\n|(close|remove) N\n|add H\n)*)*(pick( N)+\n)?\z`))

// long: a number that may be too great.
var long = regexp.MustCompile(`-?[0-9]{19,}`)

// plain: is it the Print of a Script? (Of texts whose long digits are numbers all.)
func plain(text string) bool {
	for _, w := range long.FindAllString(text, -1) {
		if n, ok := new(big.Int).SetString(w, 10); !ok || !n.IsInt64() {
			return false
		}
	}
	return whole.MatchString(text)
}

// plainBad is what the chapter says of the number beside no Script: 0, if there is one.
func plainBad(text string) int {
	if plain(text) {
		return 0
	}
	lines := strings.SplitAfter(text, "\n")
	for i := range len(lines) - 1 {
		// What a Print begins with, up to the end of a line, is a Print.
		if !plain(strings.Join(lines[:i+1], "")) {
			return i + 1
		}
	}
	return len(lines)
}

// checked: Parse of a text is as the chapter says; whether it is a script.
func checked(t *testing.T, text string) bool {
	t.Helper()
	s, bad := Parse(text)
	if want := plainBad(text); bad != want {
		t.Errorf("Parse(%q): %d, not %d", text, bad, want)
	}
	if bad != 0 && !zero(s) {
		t.Errorf("Parse(%q): %+v beside %d", text, s, bad)
	}
	if bad == 0 && Print(s) != text {
		t.Errorf("Print of Parse(%q): %q", text, Print(s))
	}
	return bad == 0
}

// TestBytes: P25.2: scripts of which one byte is another one, or missing, or one more.
func TestBytes(t *testing.T) {
	others := []string{" ", "\n", "0", "1", "-", "+", "a", "f", "F", "g", "\x00", "\xff", "\t", "\r", "\n\n", "\nclient\n"}
	rights, all := 0, 0
	count := func(text string) {
		all++
		if checked(t, text) {
			rights++
		}
	}
	for _, x := range tolds() {
		for i := range len(x.text) + 1 {
			for _, b := range others {
				count(x.text[:i] + b + x.text[i:])
				if i < len(x.text) {
					count(x.text[:i] + b + x.text[i+1:])
				}
			}
			if i < len(x.text) {
				count(x.text[:i] + x.text[i+1:])
			}
			count(x.text[i:])
			count(x.text[:i])
		}
	}
	if rights < 1000 || rights > all-1000 {
		t.Error("not many of one kind:", rights, all)
	}
}

// TestLines: P25.2: all texts of a few lines, right ones and wrong ones, in any order.
func TestLines(t *testing.T) {
	kinds := []string{"room 1 -2 3\n", "image 6162\n", "client\n", "stat /a b\n", "add -\n", "pick 0 -1\n", "\n", "fly\n", "client", "room 1 2\n", "image\n", "close x\n", "pick\n"}
	rights := 0
	row := []string{""}
	for range 7 {
		var longer []string
		for _, s := range row {
			right := checked(t, s)
			if right {
				rights++
			}
			// Behind a line that none can be with, a few stand for all.
			if right || strings.Count(s, "\n") < 3 {
				for _, line := range kinds {
					longer = append(longer, s+line)
				}
			}
		}
		row = longer
	}
	if rights < 300 {
		t.Error("only", rights, "scripts")
	}
}

// TestNone: P25.2: what is no script, and by which line.
func TestNone(t *testing.T) {
	for text, want := range map[string]int{
		"":                                     1,
		"\n":                                   1,
		" ":                                    1,
		"room":                                 1,
		"room\n":                               1,
		"room \n":                              1,
		"room 1\n":                             1,
		"room 1 2\n":                           1,
		"room 1 2 \n":                          1,
		"room 1 2 3":                           1,
		"room 1 2 3 \n":                        1,
		"room 1 2 3 4\n":                       1,
		"room  1 2 3\n":                        1,
		"room 1 2 +3\n":                        1,
		"room 1 2 03\n":                        1,
		"room 1 -0 3\n":                        1,
		"room a b c\n":                         1,
		"Room 1 2 3\n":                         1,
		" room 1 2 3\n":                        1,
		"rooms 1 2 3\n":                        1,
		"room 1 2 3\r\n":                       1,
		"room\t1 2 3\n":                        1,
		"room 1 2 9223372036854775808\n":       1,
		"room -9223372036854775809 2 3\n":      1,
		"image -\nroom 1 2 3\n":                1,
		"client\n":                             1,
		"pick 0\n":                             1,
		"1 2 3\n":                              1,
		"\nroom 1 2 3\n":                       1,
		"room 1 2 3\n ":                        2,
		"room 1 2 3\n\n":                       2,
		"room 1 2 3\n\nfly\n":                  2,
		"room 1 2 3\nroom 1 2 3\n":             2,
		"room 1 2 3\nimage\n":                  2,
		"room 1 2 3\nimage \n":                 2,
		"room 1 2 3\nimage -":                  2,
		"room 1 2 3\nimage --\n":               2,
		"room 1 2 3\nimage 0\n":                2,
		"room 1 2 3\nimage 0A\n":               2,
		"room 1 2 3\nimage 00 00\n":            2,
		"room 1 2 3\nimage  00\n":              2,
		"room 1 2 3\nimage 00 \n":              2,
		"room 1 2 3\nimages 00\n":              2,
		"room 1 2 3\nstat a\n":                 2,
		"room 1 2 3\nclients\n":                2,
		"room 1 2 3\nclient \n":                2,
		"room 1 2 3\nclient 0\n":               2,
		"room 1 2 3\nclient":                   2,
		"room 1 2 3\npick\n":                   2,
		"room 1 2 3\npick \n":                  2,
		"room 1 2 3\npick 0":                   2,
		"room 1 2 3\npick 0 \n":                2,
		"room 1 2 3\npick  0\n":                2,
		"room 1 2 3\npick 00\n":                2,
		"room 1 2 3\npick 0 x\n":               2,
		"room 1 2 3\npick 9223372036854775808": 2,
		"room 1 2 3\npick 0 -9223372036854775809\n": 2,
		"room 1 2 3\npicks 0\n":                     2,
		"room 1 2 3\nimage -\nroom 1 2 3\n":         3,
		"room 1 2 3\nimage -\nadd -\n":              3,
		"room 1 2 3\nclient\nimage -\n":             3,
		"room 1 2 3\nclient\nroom 1 2 3\n":          3,
		"room 1 2 3\nclient\nstat\n":                3,
		"room 1 2 3\nclient\n stat a\n":             3,
		"room 1 2 3\nclient\nfly a\nroom\n":         3,
		"room 1 2 3\nclient\nclose 1 \n":            3,
		"room 1 2 3\nclient\nclose 1":               3,
		"room 1 2 3\nclient\n\nclose 1\n":           3,
		"room 1 2 3\nclient\npage 1\n":              3,
		"room 1 2 3\nclient\nread 1 2\n":            3,
		"room 1 2 3\nclient\nadd 0\n":               3,
		"room 1 2 3\nclient\nremove 00\n":           3,
		"room 1 2 3\npick 1\npick 2\n":              3,
		"room 1 2 3\npick 1\nclient\n":              3,
		"room 1 2 3\npick 1\nimage -\n":             3,
		"room 1 2 3\npick 1\nroom 1 2 3\n":          3,
		"room 1 2 3\npick 1\n\n":                    3,
		"room 1 2 3\npick 1\n\x00":                  3,
		"room 1 2 3\nclient\npick 1\nclose 1\n":     4,
		"room 1 2 3\nclient\nstat a\nfly\nfly\n":    4,
		"room 1 2 3\nclient\nstat a\nclient\nstat":  5,
		"room 1 2 3\nfly\nclient":                   2,
	} {
		if s, bad := Parse(text); bad != want || !zero(s) {
			t.Errorf("Parse(%q): %+v, %d, not %d", text, s, bad, want)
		}
		checked(t, text)
	}
}

// TestLong: P25.1, P25.2: many lines, long lines, and what is wrong far behind.
func TestLong(t *testing.T) {
	s := Script{Config: server.Config{Shards: 1}, Images: slices.Repeat([]string{strings.Repeat("\x00\n", 1<<12)}, 99)}
	for i := range 1000 {
		s.Clients = append(s.Clients, slices.Repeat([]api.Op{{Kind: api.Close, ID: i}, {Kind: api.Stat, Path: strings.Repeat("/a", i)}}, i%20))
	}
	for i := range 1 << 16 {
		s.Picks = append(s.Picks, i-1000)
	}
	text := Print(s)
	if x, bad := Parse(text); bad != 0 || !is(x, s) || text != plainPrint(s) {
		t.Error("Parse of much:", bad)
	}
	lines := strings.Count(text, "\n")
	for _, more := range []string{"x", "\n", "pick 0", "pick 0\n", "client\n", "fly\nfly\n"} {
		if x, bad := Parse(text + more); bad != lines+1 || !zero(x) {
			t.Errorf("Parse of much, and %q: %d, not %d", more, bad, lines+1)
		}
	}
	if x, bad := Parse(text[:len(text)-1]); bad != lines || !zero(x) {
		t.Errorf("Parse of much, not ended: %d, not %d", bad, lines)
	}
	if x, bad := Parse(text[:len(text)-1] + " x\n"); bad != lines || !zero(x) {
		t.Errorf("Parse of many picks, and another word: %d, not %d", bad, lines)
	}
}

// rootOf: the Stack's branch at k, as far as its root tells.
func rootOf(s stack.Stack, k int) []string {
	if b := s.At(k); b != nil {
		return b.Names(0)
	}
	return nil
}

// TestStack: P25.3: the branches of images, the first one lowest.
func TestStack(t *testing.T) {
	a, b, c := imageOf(t, tree.Dir([]string{"a"}, tree.Text("x"))), imageOf(t, tree.Dir([]string{"b", "bb"}, tree.White(), tree.Link("a"))), imageOf(t, tree.Dir(nil))
	for _, images := range [][]string{nil, {}, {a}, {a, b}, {b, a}, {a, b, c}, {c, c, a, a, b}} {
		was := slices.Clone(images)
		s, e := Stack(images...)
		if e != api.OK || s.Len() != len(images) || !slices.Equal(images, was) {
			t.Error("Stack of", len(images), s.Len(), e)
		}
		for i, x := range images {
			k := len(images) - 1 - i
			root, _ := image.Decode(x)
			if s.ID(k) != i || !slices.Equal(rootOf(s, k), root.Names) || s.At(k).Count() != tree.Count(root) {
				t.Error("branch", i, "of", len(images), s.ID(k), rootOf(s, k))
			}
		}
		// One more is told by how many were ever added.
		if s, id, e := s.Add(s.At(0)); id != len(images) || e != api.OK || s.Len() != len(images)+1 {
			t.Error("Add:", id, e)
		}
	}
}

// TestNoStack: P25.3: the first error, image by image; EINVAL ahead of ENOSPC of one; the limit, and one beyond.
func TestNoStack(t *testing.T) {
	good := imageOf(t, tree.Dir([]string{"a"}, tree.Text("x")))
	many := func(n int, more ...string) []string { return append(slices.Repeat([]string{good}, n), more...) }
	for _, x := range []struct {
		images []string
		want   api.Errno
	}{
		{[]string{""}, api.EINVAL},
		{[]string{"x"}, api.EINVAL},
		{[]string{image.Magic}, api.EINVAL},
		{[]string{good + "\x00"}, api.EINVAL},
		{[]string{good[:len(good)-1]}, api.EINVAL},
		{[]string{image.Magic + "\x01\x00\x00\x00\x00\x00\x00\x00\x00"}, api.EINVAL},
		{[]string{good, "x"}, api.EINVAL},
		{[]string{"x", good}, api.EINVAL},
		{[]string{"x", "y"}, api.EINVAL},
		{many(63, "x"), api.EINVAL},
		{many(64), api.OK},
		{many(64, "x"), api.EINVAL},
		{many(65), api.ENOSPC},
		{many(65, "x"), api.ENOSPC},
		{many(64, "x", good), api.EINVAL},
		{append([]string{"x"}, many(65)...), api.EINVAL},
		{many(1000), api.ENOSPC},
	} {
		s, e := Stack(x.images...)
		if e != x.want {
			t.Error("Stack of", len(x.images), e, "not", x.want)
		}
		if e != api.OK && !reflect.ValueOf(s).IsZero() {
			t.Error("beside", e, "a Stack of", s.Len())
		}
	}
	if s, _ := Stack(many(64)...); s.Len() != stack.MaxBranches || s.ID(0) != 63 || s.ID(63) != 0 {
		t.Error("Stack of 64:", s.Len(), s.ID(0))
	}
}

// TestApart: P2: what is handed in isn't changed, what is answered is new memory, list by list.
func TestApart(t *testing.T) {
	ops := []api.Op{{Kind: api.Close, ID: 1}, {Kind: api.Close, ID: 2}, {Kind: api.Close, ID: 3}}
	images, picks := []string{"a", "b", "spare"}, []int{1, 2, 3}
	clients := [][]api.Op{ops[:2], ops[1:2], nil}
	s := Script{Images: images[:2], Clients: clients[:2], Picks: picks[:2]}
	text := Print(s)
	if text != Print(s) || ops[2].ID != 3 || images[2] != "spare" || picks[2] != 3 || clients[2] != nil || !is(s, Script{Images: []string{"a", "b"}, Clients: [][]api.Op{{{Kind: api.Close, ID: 1}, {Kind: api.Close, ID: 2}}, {{Kind: api.Close, ID: 2}}}, Picks: []int{1, 2}}) {
		t.Error("changed:", s, ops, images, picks)
	}
	again, _ := Parse(text)
	x, bad := Parse(text)
	if bad != 0 {
		t.Fatal("Parse:", bad)
	}
	for i := range x.Clients {
		_ = append(x.Clients[i], api.Op{Kind: 99}, api.Op{Kind: 99})
	}
	if !is(x, s) {
		t.Error("lists of one answer share:", x)
	}
	for i := range x.Clients {
		clear(x.Clients[i])
	}
	clear(x.Clients)
	clear(x.Images)
	clear(x.Picks)
	if y, _ := Parse(text); !is(y, s) || !is(again, s) {
		t.Error("answers share:", y, again)
	}
	// What was no script is of no matter to the next text.
	Parse("room 7 7 7\nimage 00\nclient\nclose 1\nfly\n")
	if y, bad := Parse("room 1 1 1\n"); bad != 0 || !is(y, Script{Config: server.Config{Shards: 1, Room: 1, Cursors: 1}}) {
		t.Error("Parse:", y, bad)
	}
	good := imageOf(t, tree.Dir(nil))
	l := []string{good, "x", good}
	if s, e := Stack(l[:1]...); e != api.OK || s.Len() != 1 || !slices.Equal(l, []string{good, "x", good}) {
		t.Error("Stack:", s.Len(), e)
	}
}

// TestAllArguments: P1: all calls end, and none panics, whatever they are given.
func TestAllArguments(t *testing.T) {
	numbers := []int{math.MinInt, -1 << 32, -1, 0, 1, 1 << 32, math.MaxInt}
	texts := []string{"", " ", "-", "\n", "\x00", "\xff", "é", "a\nb", "room", "room 1 1 1\n", "image", "client\n", strings.Repeat("\n", 1<<16), strings.Repeat("room 0 ", 1<<14), strings.Repeat("\xff", 1<<16), imageOf(t, tree.Dir(nil))}
	for seed := range 3000 {
		next := chance(seed)
		number := func() int { return numbers[next(len(numbers))] }
		text := func() string { return texts[next(len(texts))] }
		s := Script{Config: server.Config{Shards: number(), Room: number(), Cursors: number()}}
		for range next(4) {
			s.Images = append(s.Images, text())
			s.Picks = append(s.Picks, number())
			s.Clients = append(s.Clients, []api.Op{{Kind: next(14) - 2, Path: text(), Off: number(), N: number(), ID: number(), Image: text()}, {Kind: number()}})
		}
		// Nothing is promised of what some of these are told as; but Parse takes all.
		Parse(Print(s))
		Parse(text() + text() + text())
		Parse("room 1 1 1\n" + text() + "\n" + text())
		Parse("room 1 1 1\nclient\n" + call.Text(api.Op{Kind: next(11), Path: text()}) + text())
		if _, e := Stack(s.Images...); len(s.Images) == 0 && e != api.OK {
			t.Error("Stack of none:", e)
		}
	}
	row := []string{"room 1 1 1\n"}
	for range 5 {
		var longer []string
		for _, s := range row {
			Parse(s)
			for _, b := range []string{"client", "pick", "image", "stat", "\n", " ", "0", "-"} {
				longer = append(longer, s+b)
			}
		}
		row = longer
	}
}
