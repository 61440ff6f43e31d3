package call

import (
	"fmt"
	"math"
	"math/big"
	"reflect"
	"regexp"
	"slices"
	"strconv"
	"strings"
	"testing"

	"socage/api"
)

// every is all Kinds, and numbers that are none.
var every = []int{math.MinInt, -1 << 32, -1, 0, 1, 2, 3, 4, 5, 6, 7, 8, 9, 10, 11, 1 << 32, 1<<32 + 1, math.MaxInt}

// TestExamples: P19.2: the chapter's example, written out.
func TestExamples(t *testing.T) {
	want := api.Op{Kind: api.ReadAt, Path: "/a b", Off: 0, N: 9}
	if op, ok := Parse("read 0 9 /a b"); !ok || op != want {
		t.Error("Parse:", op, ok)
	}
	if s := Text(want); s != "read 0 9 /a b" {
		t.Error("Text:", s)
	}
}

// TestHex: P19.1: all short texts, and a long one; and their bytes again.
func TestHex(t *testing.T) {
	l := []string{"ab", "a\x00", "\xff\xfe\xfd", "-", "--", "00", "é", strings.Repeat("\x0f\xf0", 1<<20)}
	for a := range 256 {
		l = append(l, string([]byte{byte(a)}))
		for b := range 256 {
			l = append(l, string([]byte{byte(a), byte(b)}))
		}
	}
	for _, s := range l {
		w := Hex(s)
		if want := fmt.Sprintf("%x", s); w != want {
			t.Fatalf("Hex(%.9q): %.20q, not %.20q", s, w, want)
		}
		if x, ok := Bytes(w); !ok || x != s {
			t.Fatalf("Bytes(%.9q): %.20q, %v", w, x, ok)
		}
	}
	if Hex("") != "-" {
		t.Error("Hex of none:", Hex(""))
	}
	if x, ok := Bytes("-"); !ok || x != "" {
		t.Errorf("Bytes of none: %q, %v", x, ok)
	}
}

// TestNoBytes: P19.1: all words of one or two bytes, and others, are those that Hex answers, or none.
func TestNoBytes(t *testing.T) {
	hex := map[string]string{"-": "", "6162": "ab", "00ff": "\x00\xff", "0f0f0f": "\x0f\x0f\x0f"}
	l := []string{"", "-", "--", "-00", "00-", "000", "0", "a", "6162", "00ff", "0f0f0f", "0F", "0f0F0f", "61 62", " 61", "61 ", "0x61", "g0", "0g", "61\n", "6/", "6:", "6`", "6@", "\u00b9\u00b9", "\x00\x00", strings.Repeat("0", 1<<20+1), strings.Repeat("00", 1<<19) + "0x"}
	for a := range 256 {
		hex[fmt.Sprintf("%02x", a)] = string([]byte{byte(a)})
		l = append(l, string([]byte{byte(a)}))
		for b := range 256 {
			l = append(l, string([]byte{byte(a), byte(b)}))
		}
	}
	for _, w := range l {
		want, is := hex[w]
		if x, ok := Bytes(w); ok != is || x != want {
			t.Errorf("Bytes(%.9q): %.20q, %v, not %q, %v", w, x, ok, want, is)
		}
	}
}

// isNumber: a number in decimal digits, without noughts ahead.
var isNumber = regexp.MustCompile(`^(0|-?[1-9][0-9]*)$`)

// plainNumber is what the chapter says of Number.
func plainNumber(w string) (int, bool) {
	n, ok := new(big.Int).SetString(w, 10)
	if !ok || !isNumber.MatchString(w) || strings.HasSuffix(w, "\n") || !n.IsInt64() {
		return 0, false
	}
	return int(n.Int64()), true
}

// each: all texts of these bytes, up to so many.
func each(bytes string, many int, f func(string)) {
	row := []string{""}
	for range many + 1 {
		var longer []string
		for _, s := range row {
			f(s)
			for _, b := range []byte(bytes) {
				longer = append(longer, s+string([]byte{b}))
			}
		}
		row = longer
	}
}

// TestNumber: P19.1: the least number, the greatest one, one beyond each; and all short words.
func TestNumber(t *testing.T) {
	for _, x := range []struct {
		w    string
		want int
		ok   bool
	}{
		{"0", 0, true}, {"7", 7, true}, {"-7", -7, true}, {"10", 10, true}, {"-10", -10, true},
		{"2147483647", 1<<31 - 1, true}, {"2147483648", 1 << 31, true}, {"-2147483649", -1<<31 - 1, true},
		{"9223372036854775807", math.MaxInt, true}, {"9223372036854775808", 0, false}, {"9223372036854775817", 0, false},
		{"-9223372036854775808", math.MinInt, true}, {"-9223372036854775809", 0, false},
		{"18446744073709551616", 0, false}, {"18446744073709551617", 0, false}, {strings.Repeat("9", 1<<16), 0, false}, {"0" + strings.Repeat("0", 1<<16), 0, false},
		{"", 0, false}, {"-", 0, false}, {"-0", 0, false}, {"00", 0, false}, {"07", 0, false}, {"-07", 0, false}, {"+7", 0, false}, {"+0", 0, false}, {"--7", 0, false}, {"7-", 0, false},
		{"1_0", 0, false}, {"0x7", 0, false}, {"a", 0, false}, {"1e3", 0, false}, {"1.0", 0, false}, {" 7", 0, false}, {"7 ", 0, false}, {"7\n", 0, false}, {"7\x00", 0, false}, {"\u0667", 0, false}, {"\u22127", 0, false},
	} {
		if n, ok := Number(x.w); n != x.want || ok != x.ok {
			t.Errorf("Number(%.30q): %d, %v", x.w, n, ok)
		}
	}
	each("-+0129_ x", 5, func(w string) {
		want, is := plainNumber(w)
		if n, ok := Number(w); n != want || ok != is {
			t.Errorf("Number(%q): %d, %v, not %d, %v", w, n, ok, want, is)
		}
	})
}

// some: calls of all Kinds, and of others, with all kinds of fields, meaningless ones among them.
func some() []api.Op {
	var l []api.Op
	for _, kind := range every {
		for _, path := range []string{"", "/", "a", "/a b", " ", "  a ", "3", "- -1", "a\n", "\n", "\r\x00\xff"} {
			for _, image := range []string{"", "\x00", "ab", "\n"} {
				for _, n := range []int{0, 1, -1, 12, math.MinInt, math.MaxInt} {
					l = append(l, api.Op{Kind: kind, Path: path, Image: image}, api.Op{Kind: kind, Path: path, Image: image, Off: n}, api.Op{Kind: kind, Path: path, Image: image, N: n}, api.Op{Kind: kind, Path: path, Image: image, ID: n},
						api.Op{Kind: kind, Path: path, Image: image, Off: n, N: 5}, api.Op{Kind: kind, Path: path, Image: image, N: 5, ID: n}, api.Op{Kind: kind, Path: path, Image: image, N: n, Off: 4, ID: 3})
				}
			}
		}
	}
	return l
}

// plainText is what the chapter says of Text.
func plainText(op api.Op) string {
	switch op.Kind {
	case api.Lookup:
		return "lookup " + op.Path
	case api.Stat:
		return "stat " + op.Path
	case api.Readlink:
		return "readlink " + op.Path
	case api.Open:
		return "open " + op.Path
	case api.ReadAt:
		return fmt.Sprintf("read %d %d %s", op.Off, op.N, op.Path)
	case api.Page:
		return fmt.Sprintf("page %d %d", op.ID, op.N)
	case api.Close:
		return fmt.Sprintf("close %d", op.ID)
	case api.Remove:
		return fmt.Sprintf("remove %d", op.ID)
	case api.Add:
		if op.Image == "" {
			return "add -"
		}
		return fmt.Sprintf("add %x", op.Image)
	}
	return ""
}

// plainRight is what the chapter says of Right, field by field.
func plainRight(op api.Op) bool {
	path, off, n, id, image := op.Path == "", op.Off == 0, op.N == 0, op.ID == 0, op.Image == ""
	switch op.Kind {
	case api.Lookup, api.Stat, api.Readlink, api.Open:
		return !strings.Contains(op.Path, "\n") && off && n && id && image
	case api.ReadAt:
		return !strings.Contains(op.Path, "\n") && id && image
	case api.Page:
		return path && off && image
	case api.Close, api.Remove:
		return path && off && n && image
	case api.Add:
		return path && off && n && id
	}
	return false
}

// TestSome: P19.2: Text and Right of all kinds of calls, and Parse of their Texts: only Right ones are told by a line.
func TestSome(t *testing.T) {
	right := map[string]api.Op{}
	l := some()
	for _, op := range l {
		if s, want := Text(op), plainText(op); s != want {
			t.Fatalf("Text of %+v: %q, not %q", op, s, want)
		}
		ok := plainRight(op)
		if Right(op) != ok {
			t.Fatalf("Right of %+v: %v", op, !ok)
		}
		if ok {
			right[Text(op)] = op
		}
	}
	for _, op := range l {
		line := Text(op)
		x, ok := Parse(line)
		want, is := right[line]
		// What a Text doesn't tell may be other than zero: the line is that of another call then, or has a line feed.
		if !is && !strings.Contains(line, "\n") && line != "" {
			want, is = plainParse(line)
		}
		if ok != is || x != want {
			t.Fatalf("Parse(%q): %+v, %v, not %+v, %v", line, x, ok, want, is)
		}
	}
}

// forms: how lines are to be.
var forms = []struct {
	form *regexp.Regexp
	make func(part []string) api.Op
}{
	{regexp.MustCompile(`^lookup ([^\n]*)$`), func(p []string) api.Op { return api.Op{Kind: 1, Path: p[1]} }},
	{regexp.MustCompile(`^stat ([^\n]*)$`), func(p []string) api.Op { return api.Op{Kind: 2, Path: p[1]} }},
	{regexp.MustCompile(`^readlink ([^\n]*)$`), func(p []string) api.Op { return api.Op{Kind: 3, Path: p[1]} }},
	{regexp.MustCompile(`^read ([^ ]*) ([^ ]*) ([^\n]*)$`), func(p []string) api.Op { return api.Op{Kind: 4, Off: number(p[1]), N: number(p[2]), Path: p[3]} }},
	{regexp.MustCompile(`^open ([^\n]*)$`), func(p []string) api.Op { return api.Op{Kind: 5, Path: p[1]} }},
	{regexp.MustCompile(`^page ([^ ]*) ([^ ]*)$`), func(p []string) api.Op { return api.Op{Kind: 6, ID: number(p[1]), N: number(p[2])} }},
	{regexp.MustCompile(`^close ([^ ]*)$`), func(p []string) api.Op { return api.Op{Kind: 7, ID: number(p[1])} }},
	{regexp.MustCompile(`^add (-|([0-9a-f][0-9a-f])+)$`), func(p []string) api.Op { return api.Op{Kind: 8, Image: bytesOf(p[1])} }},
	{regexp.MustCompile(`^remove ([^ ]*)$`), func(p []string) api.Op { return api.Op{Kind: 9, ID: number(p[1])} }},
}

// number: that of a word; if it is none, the test's own panic tells so.
func number(w string) int {
	n, ok := plainNumber(w)
	if !ok {
		panic("none")
	}
	return n
}

// bytesOf: those of a word.
func bytesOf(w string) string {
	var s string
	fmt.Sscanf(w, "%x", &s)
	return s
}

// plainParse is what the chapter says of Parse.
func plainParse(line string) (op api.Op, ok bool) {
	defer func() {
		if recover() != nil {
			op, ok = api.Op{}, false
		}
	}()
	for _, f := range forms {
		if p := f.form.FindStringSubmatch(line); p != nil {
			return f.make(p), true
		}
	}
	return api.Op{}, false
}

// TestParse: P19.2: of lines that are right, and of all that differ from these by one byte, or are cut off.
func TestParse(t *testing.T) {
	lines := []string{"", " ", "lookup /a b", "lookup ", "stat a", "readlink /x", "read 0 9 /a b", "read -3 -12 ", "read 9223372036854775807 1 r", "open /", "page 3 17", "page -1 0", "close -1", "close 0", "add 00ff", "add -", "remove 4", "read  1 2", "close  1", "page 1  2", "add a0 a0", "lookups a", "Stat a", "fly /", "1 /a"}
	var l []string
	for _, s := range lines {
		l = append(l, s)
		for i := range len(s) + 1 {
			l = append(l, s[:i], s[i:])
			for _, b := range []string{" ", "\n", "0", "1", "-", "+", "a", "f", "F", "g", "\x00", "\xff", "\t", "\r"} {
				l = append(l, s[:i]+b+s[i:])
				if i < len(s) {
					l = append(l, s[:i]+b+s[i+1:])
				}
			}
			if i < len(s) {
				l = append(l, s[:i]+s[i+1:])
			}
		}
	}
	rights := 0
	for _, s := range l {
		want, is := plainParse(s)
		op, ok := Parse(s)
		if ok != is || op != want {
			t.Errorf("Parse(%q): %+v, %v, not %+v, %v", s, op, ok, want, is)
		}
		if ok {
			rights++
			if Text(op) != s || !Right(op) {
				t.Errorf("Text, Right of %+v: %q, %v, not %q", op, Text(op), Right(op), s)
			}
		}
	}
	if rights < 200 || rights > len(l)-200 {
		t.Error("not many kinds of lines:", rights, len(l))
	}
}

// TestLong: P19.2: a long Path, a long Image, the least number and the greatest one, and one beyond each.
func TestLong(t *testing.T) {
	long := strings.Repeat("/a b", 1<<18)
	for _, op := range []api.Op{
		{Kind: api.Lookup, Path: long},
		{Kind: api.ReadAt, Off: math.MaxInt, N: math.MinInt, Path: long},
		{Kind: api.Add, Image: strings.Repeat("\n\x00\xf0", 1<<20)},
		{Kind: api.Page, ID: math.MinInt, N: math.MaxInt},
		{Kind: api.Close, ID: math.MaxInt}, {Kind: api.Remove, ID: math.MinInt},
	} {
		s := Text(op)
		if x, ok := Parse(s); !ok || x != op || s != plainText(op) {
			t.Errorf("Parse(%.40q): %v", s, ok)
		}
		if x, ok := Parse(s + "\n"); ok || x != (api.Op{}) {
			t.Errorf("Parse of %.40q and a line feed: %v", s, ok)
		}
	}
	for _, s := range []string{"read 9223372036854775808 0 a", "read 0 9223372036854775808 a", "page -9223372036854775809 1", "page 1 9223372036854775808", "close 9223372036854775808", "remove -9223372036854775809", "add " + strings.Repeat("0", 1<<20+1)} {
		if x, ok := Parse(s); ok || x != (api.Op{}) {
			t.Errorf("Parse(%.40q): %+v", s, x)
		}
	}
}

// TestShow: P19.3: of each Kind, of what is none, and of errors; whatever has no meaning there isn't told.
func TestShow(t *testing.T) {
	full := api.Result{Kind: 2, Size: 30, Where: -4, ID: 50, Text: "t\x00", Names: []string{"a", "", "bc"}, End: true}
	least := api.Result{Kind: math.MinInt, Size: math.MinInt, Where: math.MinInt, ID: math.MinInt, Text: "-", Names: []string{""}}
	wants := map[int][3]string{
		api.Lookup:   {"ok 2 -4", "ok 0 0", "ok -9223372036854775808 -9223372036854775808"},
		api.Stat:     {"ok 2 30", "ok 0 0", "ok -9223372036854775808 -9223372036854775808"},
		api.Readlink: {"ok 7400", "ok -", "ok 2d"},
		api.ReadAt:   {"ok 7400", "ok -", "ok 2d"},
		api.Open:     {"ok 50", "ok 0", "ok -9223372036854775808"},
		api.Page:     {"ok end 61 - 6263", "ok", "ok -"},
		api.Add:      {"ok 50", "ok 0", "ok -9223372036854775808"},
	}
	for _, kind := range every {
		want, ok := wants[kind]
		if !ok {
			want = [3]string{"ok", "ok", "ok"}
		}
		for i, r := range []api.Result{full, {}, least} {
			if s := Show(kind, r); s != want[i] {
				t.Errorf("Show(%d, %+v): %q, not %q", kind, r, s, want[i])
			}
			for _, e := range []api.Errno{math.MinInt, -1, 1, 2, 9, 10, 11, math.MaxInt} {
				r.Err = e
				if s := Show(kind, r); s != "error "+strconv.Itoa(int(e)) {
					t.Errorf("Show(%d, %+v): %q", kind, r, s)
				}
			}
		}
	}
	for _, x := range []struct {
		r    api.Result
		want string
	}{
		{api.Result{End: true}, "ok end"}, {api.Result{Names: []string{"end"}}, "ok 656e64"}, {api.Result{Names: []string{"b", "a", "b"}, End: true}, "ok end 62 61 62"},
		{api.Result{Names: slices.Repeat([]string{"\xff"}, 1<<16)}, "ok" + strings.Repeat(" ff", 1<<16)},
	} {
		if s := Show(api.Page, x.r); s != x.want {
			t.Errorf("Show of a page: %.40q, not %.40q", s, x.want)
		}
	}
}

// TestApart: P2: what is handed in isn't changed, and nothing is kept.
func TestApart(t *testing.T) {
	names := append(make([]string, 0, 4), "a", "b")
	all := slices.Clone(names[:4])
	r := api.Result{Names: names, End: true}
	same := r
	for range 3 {
		for _, kind := range every {
			Show(kind, r)
			Text(api.Op{Kind: kind, Path: "x", Image: "y"})
		}
		if s := Show(api.Page, r); s != "ok end 61 62" {
			t.Error("Show:", s)
		}
		Parse("read 3 4 /x")
		if op, ok := Parse("read 3 4"); ok || op != (api.Op{}) {
			t.Error("Parse:", op)
		}
		if op, ok := Parse("close 4"); !ok || op != (api.Op{Kind: api.Close, ID: 4}) {
			t.Error("Parse:", op)
		}
	}
	if !slices.Equal(names[:4], all) || !reflect.DeepEqual(r, same) {
		t.Error("what was handed in is", names[:4])
	}
}

// TestAllArguments: P1: all calls end, and none panics, whatever they are given.
func TestAllArguments(t *testing.T) {
	numbers := []int{math.MinInt, -1 << 32, -1, 0, 1, 1 << 32, math.MaxInt}
	texts := []string{"", " ", "-", "\n", "\x00", "\xff", "é", "read", "read ", "read  ", "page", "page ", "page  ", "close ", "add ", "add", "0", strings.Repeat(" ", 1<<16), strings.Repeat("read 0 ", 1<<14), strings.Repeat("\xff", 1<<16)}
	for _, s := range texts {
		Hex(s)
		Bytes(s)
		Number(s)
		Parse(s)
		for _, kind := range every {
			for _, n := range numbers {
				op := api.Op{Kind: kind, Path: s, Off: n, N: n, ID: n, Image: s}
				Right(op)
				Text(op)
				Show(kind, api.Result{Err: api.Errno(n), Kind: n, Size: n, Where: n, ID: n, Text: s, Names: []string{s, s}, End: n > 0})
			}
			Show(kind, api.Result{Names: []string{s}})
		}
	}
	each("read 0-\n", 6, func(s string) { Parse(s) })
}
