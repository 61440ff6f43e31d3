package name

import (
	"slices"
	"strings"
	"testing"

	"socage/api"
)

// texts: all texts of at most so many of some bytes.
func texts(bytes string, most int) []string {
	all, last := []string{""}, []string{""}
	for range most {
		var next []string
		for _, s := range last {
			for i := range len(bytes) {
				next = append(next, s+bytes[i:i+1])
			}
		}
		all, last = append(all, next...), next
	}
	return all
}

// plainRight is P1.1, word by word.
func plainRight(s string) bool {
	for i := range len(s) {
		if s[i] == '/' || s[i] == 0 {
			return false
		}
	}
	return len(s) >= 1 && len(s) <= 64 && s != "." && s != ".."
}

// plainSplit is P1.2, word by word: byte by byte, with no help of the library.
func plainSplit(path string) (parts []string, root bool, e api.Errno) {
	if len(path) < 1 || len(path) > 1024 {
		return nil, false, api.EINVAL
	}
	pieces := []string{""}
	for i := range len(path) {
		if path[i] == '/' {
			pieces = append(pieces, "")
			continue
		}
		pieces[len(pieces)-1] += path[i : i+1]
	}
	for _, p := range pieces {
		if p != "" && p != "." && p != ".." && !plainRight(p) {
			return nil, false, api.EINVAL
		}
		if p != "" && p != "." {
			parts = append(parts, p)
		}
	}
	return parts, path[0] == '/', api.OK
}

// TestLimits: P1.1, P1.2: the limits' numbers.
func TestLimits(t *testing.T) {
	if MaxName != 64 || MaxPath != 1024 {
		t.Error("limits:", MaxName, MaxPath)
	}
}

// TestRight: P1.1.
func TestRight(t *testing.T) {
	for s, want := range map[string]bool{
		"a":                      true,
		"a b":                    true,
		" ":                      true,
		"...":                    true,
		".a":                     true,
		"a.":                     true,
		"..a":                    true,
		"\\":                     true,
		"\n":                     true,
		"\x01":                   true,
		"\xff\xfe":               true,
		"\u00e9":                 true,
		strings.Repeat("b", 63):  true,
		strings.Repeat("b", 64):  true,
		strings.Repeat(".", 64):  true,
		"":                       false,
		".":                      false,
		"..":                     false,
		"/":                      false,
		"\x00":                   false,
		"a/b":                    false,
		"/a":                     false,
		"a/":                     false,
		"a\x00b":                 false,
		"\x00a":                  false,
		"a\x00":                  false,
		strings.Repeat("b", 65):  false,
		strings.Repeat("é", 32):  true,
		strings.Repeat("é", 33):  false,
		strings.Repeat("b", 1e6): false,
	} {
		if Right(s) != want {
			t.Errorf("Right(%.70q): %v", s, !want)
		}
	}
}

// TestRightBytes: P1.1: of each byte whether a name may have it, first, last, and among others.
func TestRightBytes(t *testing.T) {
	for c := range 256 {
		b := string([]byte{byte(c)})
		want := c != 0 && c != '/'
		if Right("a"+b+"c") != want || Right("ab"+b) != want || Right(b+"bc") != want {
			t.Errorf("Right with byte %d: not %v", c, want)
		}
		if Right(b) != (want && c != '.') {
			t.Errorf("Right of byte %d alone", c)
		}
	}
}

// TestRightAll: P1.1: all short texts.
func TestRightAll(t *testing.T) {
	for _, s := range texts("a./\x00", 6) {
		if Right(s) != plainRight(s) {
			t.Errorf("Right(%q): %v", s, !plainRight(s))
		}
	}
}

// TestSplit: P1.2: ordinary paths, and the edges.
func TestSplit(t *testing.T) {
	long := strings.Repeat("b", 64)
	for _, x := range []struct {
		path  string
		parts []string
		root  bool
	}{
		{"a//./b/../c", []string{"a", "b", "..", "c"}, false},
		{"/a//./b/../c", []string{"a", "b", "..", "c"}, true},
		{"/", nil, true},
		{"//", nil, true},
		{".", nil, false},
		{"./", nil, false},
		{"/.", nil, true},
		{"..", []string{".."}, false},
		{"/..", []string{".."}, true},
		{"../..", []string{"..", ".."}, false},
		{"a", []string{"a"}, false},
		{"/a/", []string{"a"}, true},
		{"...", []string{"..."}, false},
		{"./a/.b/c.", []string{"a", ".b", "c."}, false},
		{"a/a/a", []string{"a", "a", "a"}, false},
		{"\xff/ ", []string{"\xff", " "}, false},
		{long, []string{long}, false},
		{"/" + long + "/" + long, []string{long, long}, true},
		{strings.Repeat("/", 1024), nil, true},
		{strings.Repeat("./", 512), nil, false},
		{strings.Repeat("a/", 512), slices.Repeat([]string{"a"}, 512), false},
		{strings.Repeat("/a", 512), slices.Repeat([]string{"a"}, 512), true},
		{strings.Repeat("../", 341) + "a", append(slices.Repeat([]string{".."}, 341), "a"), false},
	} {
		parts, root, e := Split(x.path)
		if e != api.OK || root != x.root || !slices.Equal(parts, x.parts) {
			t.Errorf("Split(%.80q): %q, %v, %v", x.path, parts, root, e)
		}
	}
}

// TestSplitOfNone: P1.2: what is no path is EINVAL, with nothing beside it, even behind parts that are right.
func TestSplitOfNone(t *testing.T) {
	long := strings.Repeat("b", 65)
	for _, s := range []string{
		"",
		"\x00",
		"a\x00",
		"/a/b\x00/c",
		"/a/\x00",
		"./\x00",
		long,
		"/" + long,
		"/a/../" + long,
		long + "/a",
		strings.Repeat(".", 65),
		strings.Repeat("a", 1024),
		strings.Repeat("/", 1025),
		strings.Repeat("./", 512) + ".",
		strings.Repeat("a/", 512) + "a",
		strings.Repeat("/a", 1<<20),
	} {
		parts, root, e := Split(s)
		if e != api.EINVAL || root || len(parts) != 0 {
			t.Errorf("Split(%.80q): %q, %v, %v", s, parts, root, e)
		}
	}
}

// TestSplitAll: P1.2: all short texts, of names, dots, slashes and a byte that no name has.
func TestSplitAll(t *testing.T) {
	for _, s := range texts("a./\x00", 7) {
		parts, root, e := Split(s)
		p, r, f := plainSplit(s)
		if e != f || root != r || !slices.Equal(parts, p) {
			t.Errorf("Split(%q): %q, %v, %v; not %q, %v, %v", s, parts, root, e, p, r, f)
		}
	}
}

// TestJoin: P1.3.
func TestJoin(t *testing.T) {
	for _, x := range []struct {
		parts []string
		want  string
	}{
		{nil, "/"},
		{[]string{}, "/"},
		{[]string{"a"}, "/a"},
		{[]string{"a", "b"}, "/a/b"},
		{[]string{"a", "..", "b c"}, "/a/../b c"},
		{[]string{""}, "/"},
		{[]string{"", ""}, "//"},
		{[]string{"a", ""}, "/a/"},
		{[]string{"a/b", "/"}, "/a/b//"},
		{slices.Repeat([]string{"a"}, 1000), strings.Repeat("/a", 1000)},
	} {
		if got := Join(x.parts...); got != x.want {
			t.Errorf("Join(%.80q): %.80q", x.parts, got)
		}
	}
	if Join() != "/" || Join("a", "b", "c") != "/a/b/c" {
		t.Error("Join of parts that are told one by one")
	}
}

// places: lists of names.
func places() [][]string {
	long := strings.Repeat("b", 64)
	return [][]string{
		nil,
		{"a"},
		{"a", "b"},
		{"...", " "},
		{"a", "a", "a"},
		{"\xff", ".a", "a."},
		{long},
		slices.Repeat([]string{long}, 15),
		slices.Repeat([]string{"a"}, 3000),
	}
}

// TestChild: P1.3: Join of the names and one more.
func TestChild(t *testing.T) {
	for _, l := range places() {
		for _, s := range []string{"a", "...", "b c", "\xff", strings.Repeat("c", 64)} {
			want := Join(append(slices.Clone(l), s)...)
			if got := Child(Join(l...), s); got != want {
				t.Errorf("Child(%.80q, %q): %.80q", Join(l...), s, got)
			}
		}
	}
	if Child("/", "a") != "/a" || Child("/a", "b") != "/a/b" {
		t.Error("Child")
	}
}

// TestParent: P1.3: Join of the names without the last one; the root is its own.
func TestParent(t *testing.T) {
	for _, l := range places() {
		want := "/"
		if len(l) > 0 {
			want = Join(l[:len(l)-1]...)
		}
		if got := Parent(Join(l...)); got != want {
			t.Errorf("Parent(%.80q): %.80q", Join(l...), got)
		}
	}
	if Parent("/") != "/" || Parent("/a") != "/" || Parent("/a/b") != "/a" || Parent("/a/b/c") != "/a/b" {
		t.Error("Parent")
	}
}

// TestAllArguments: P1: all calls end, and none panics, whatever the text.
func TestAllArguments(t *testing.T) {
	few := texts("a./\x00", 4)
	few = append(few, strings.Repeat("/", 5000), strings.Repeat("a", 5000), "\xff\xfe")
	for _, s := range few {
		Right(s)
		Split(s)
		Parent(s)
		for _, d := range few {
			Child(d, s)
			Join(d, s)
		}
	}
}

// TestHandedIn: P2: lists that are handed in are neither changed nor kept, their spare room neither.
func TestHandedIn(t *testing.T) {
	room := []string{"a", "b", "c", "d"}
	got := Join(room[:2]...)
	if !slices.Equal(room, []string{"a", "b", "c", "d"}) {
		t.Error("Join changed its parts:", room)
	}
	room[0], room[1] = "x", "y"
	if got != "/a/b" || Join("a", "b") != "/a/b" {
		t.Error("Join kept its parts:", got)
	}
}

// TestAnswered: P2: an answer is new memory: a change of it changes no other one.
func TestAnswered(t *testing.T) {
	first, _, _ := Split("/a/b")
	second, _, _ := Split("/a/b")
	first[0] = "x"
	_ = append(first[:1], "y")
	third, _, _ := Split("/a/b")
	want := []string{"a", "b"}
	if !slices.Equal(second, want) || !slices.Equal(third, want) {
		t.Error("Split:", second, third)
	}
}
