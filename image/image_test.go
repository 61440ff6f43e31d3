package image

import (
	"math/rand"
	"runtime"
	"slices"
	"strconv"
	"strings"
	"testing"

	"socage/api"
	"socage/extent"
	"socage/tree"
)

// in: a root that has n as its only entry.
func in(n api.Node) api.Node {
	return api.Node{Kind: api.Dir, Names: []string{"a"}, Items: []api.Node{n}}
}

// under: n, so many directories deep.
func under(deep int, n api.Node) api.Node {
	for range deep {
		n = in(n)
	}
	return n
}

// full: a directory with so many whiteouts.
func full(entries int) api.Node {
	n := api.Node{Kind: api.Dir}
	for i := range entries {
		n.Names = append(n.Names, strconv.Itoa(100000+i))
		n.Items = append(n.Items, api.Node{Kind: api.White})
	}
	return n
}

// sample: a tree with nodes of all kinds; each call makes a new one.
func sample() api.Node {
	return api.Node{Kind: api.Dir, Opaque: true, Names: []string{"a", "ab", "b", "c", "d"}, Items: []api.Node{
		{Kind: api.File, Size: 259, Extents: []api.Extent{{Off: 1, Data: "bc"}, {Off: 3, Data: "d"}, {Off: 258, Data: "\x00"}}},
		{Kind: api.Link, Target: "../a"},
		{Kind: api.White},
		{Kind: api.Dir, Opaque: true},
		{Kind: api.Dir, Names: []string{"e", "f"}, Items: []api.Node{
			{Kind: api.Dir, Names: []string{"g"}, Items: []api.Node{{Kind: api.File, Size: 1, Extents: []api.Extent{{Off: 0, Data: "h"}}}}},
			{Kind: api.File},
		}},
	}}
}

// bytesOf: a number in so many bytes, the highest first.
func bytesOf(n, size int) string {
	b := make([]byte, size)
	for i := size - 1; i >= 0; i-- {
		b[i] = byte(n % 256)
		n /= 256
	}
	return string(b)
}

// plainBytes is what the chapter says of a node's bytes, word by word; of nodes that may not be, too.
func plainBytes(n api.Node) string {
	s := bytesOf(n.Kind, 1)
	switch n.Kind {
	case 1:
		s += bytesOf(n.Size, 4) + bytesOf(len(n.Extents), 4)
		for _, x := range n.Extents {
			s += bytesOf(x.Off, 4) + bytesOf(len(x.Data), 4) + x.Data
		}
	case 2:
		opaque := "\x00"
		if n.Opaque {
			opaque = "\x01"
		}
		var l []string
		for i, x := range n.Items {
			l = append(l, bytesOf(len(n.Names[i]), 1)+n.Names[i], plainBytes(x))
		}
		s += opaque + bytesOf(len(n.Names), 2) + strings.Join(l, "")
	case 3:
		s += bytesOf(len(n.Target), 2) + n.Target
	}
	return s
}

// plainImage is what the chapter says of a tree's image.
func plainImage(root api.Node) string { return "socage1" + plainBytes(root) }

// encode: the image of a tree that has one.
func encode(t *testing.T, root api.Node) string {
	t.Helper()
	s, e := Encode(root)
	if e != api.OK || !strings.HasPrefix(s, "socage1") {
		t.Fatalf("Encode: %.40q, %v", s, e)
	}
	return s
}

// refuse: there is no image of this tree.
func refuse(t *testing.T, what string, root api.Node) {
	t.Helper()
	if s, e := Encode(root); s != "" || e != api.EINVAL {
		t.Errorf("Encode of %s: %.40q, %v", what, s, e)
	}
}

// decoded: s is the image of this tree.
func decoded(t *testing.T, what, s string, root api.Node) {
	t.Helper()
	if n, e := Decode(s); e != api.OK || !tree.Same(n, root) {
		t.Errorf("Decode of %s: kind %d, %v", what, n.Kind, e)
	}
}

// none: s is the image of none.
func none(t *testing.T, what, s string) {
	t.Helper()
	if n, e := Decode(s); e != api.EINVAL || !tree.Same(n, api.Node{}) {
		t.Errorf("Decode of %s, %.80q: %+v, %v", what, s, n, e)
	}
}

// TestLimits: P5.1, P5.2: what an image begins with, and how many bytes it has at most.
func TestLimits(t *testing.T) {
	if Magic != "socage1" || MaxImage != 4194304 {
		t.Error("limits:", Magic, MaxImage)
	}
}

// TestBytes: P5.1: nodes of each kind, byte by byte; P5.2: there and back.
func TestBytes(t *testing.T) {
	one := "socage1\x02\x00\x00\x01\x01a"
	name := strings.Repeat("b", 64)
	path := strings.Repeat("/b", 128)
	for i, x := range []struct {
		root api.Node
		want string
	}{
		{api.Node{Kind: api.Dir}, "socage1\x02\x00\x00\x00"},
		{api.Node{Kind: api.Dir, Opaque: true}, "socage1\x02\x01\x00\x00"},
		{in(api.Node{Kind: api.White}), one + "\x04"},
		{in(api.Node{Kind: api.Dir}), one + "\x02\x00\x00\x00"},
		{in(api.Node{Kind: api.Dir, Opaque: true}), one + "\x02\x01\x00\x00"},
		{in(api.Node{Kind: api.Link, Target: "/x"}), one + "\x03\x00\x02/x"},
		{in(api.Node{Kind: api.Link, Target: path}), one + "\x03\x01\x00" + path},
		{in(api.Node{Kind: api.File}), one + "\x01\x00\x00\x00\x00\x00\x00\x00\x00"},
		{in(api.Node{Kind: api.File, Size: 0x012345}), one + "\x01\x00\x01\x23\x45\x00\x00\x00\x00"},
		{in(api.Node{Kind: api.File, Size: 1 << 20}), one + "\x01\x00\x10\x00\x00\x00\x00\x00\x00"},
		{in(api.Node{Kind: api.File, Size: 0x010205, Extents: []api.Extent{{Off: 0, Data: "\x00"}, {Off: 1, Data: "bc"}, {Off: 0x010203, Data: "d"}}}),
			one + "\x01\x00\x01\x02\x05\x00\x00\x00\x03\x00\x00\x00\x00\x00\x00\x00\x01\x00\x00\x00\x00\x01\x00\x00\x00\x02bc\x00\x01\x02\x03\x00\x00\x00\x01d"},
		{in(api.Node{Kind: api.File, Size: 300, Extents: []api.Extent{{Off: 7, Data: strings.Repeat("c", 258)}}}),
			one + "\x01\x00\x00\x01\x2c\x00\x00\x00\x01\x00\x00\x00\x07\x00\x00\x01\x02" + strings.Repeat("c", 258)},
		{api.Node{Kind: api.Dir, Names: []string{"a", name}, Items: []api.Node{{Kind: api.Dir, Names: []string{"\xff"}, Items: []api.Node{{Kind: api.White}}}, {Kind: api.Link, Target: "."}}},
			"socage1\x02\x00\x00\x02\x01a\x02\x00\x00\x01\x01\xff\x04\x40" + name + "\x03\x00\x01."},
	} {
		if s, e := Encode(x.root); e != api.OK || s != x.want {
			t.Errorf("Encode %d: %q, %v", i, s, e)
		}
		decoded(t, strconv.Itoa(i), x.want, x.root)
	}
}

// rights: trees that may be, with all that a node has at its limits.
func rights() []api.Node {
	many := api.Node{Kind: api.File, Size: 1 << 20}
	for i := range 1 << 10 {
		many.Extents = append(many.Extents, api.Extent{Off: i << 10, Data: strconv.Itoa(i)})
	}
	big := api.Node{Kind: api.File, Size: 1 << 20, Extents: []api.Extent{{Off: 0, Data: strings.Repeat("b", 1<<20)}}}
	return []api.Node{
		sample(),
		in(sample()),
		under(10, sample()),
		under(15, api.Node{Kind: api.White}),
		under(15, api.Node{Kind: api.Dir}),
		full(255),
		full(256),
		full(4095),
		under(14, full(4081)),
		in(many),
		in(big),
		{Kind: api.Dir, Names: []string{"a", "b"}, Items: []api.Node{big, many}},
	}
}

// wrongs: trees that may not be.
func wrongs() []api.Node {
	two := func(a, b string) api.Node {
		return api.Node{Kind: api.Dir, Names: []string{a, b}, Items: []api.Node{{Kind: api.White}, {Kind: api.White}}}
	}
	one := func(s string) api.Node {
		return api.Node{Kind: api.Dir, Names: []string{s}, Items: []api.Node{{Kind: api.White}}}
	}
	file := func(size int, l ...api.Extent) api.Node {
		return in(api.Node{Kind: api.File, Size: size, Extents: l})
	}
	return []api.Node{
		{Kind: api.File},
		{Kind: api.Link, Target: "a"},
		{Kind: api.White},
		full(4096),
		full(65535),
		under(14, full(4082)),
		under(16, api.Node{Kind: api.White}),
		under(16, api.Node{Kind: api.Dir}),
		under(40, api.Node{Kind: api.White}),
		two("b", "a"),
		two("a", "a"),
		one(""),
		one("."),
		one(".."),
		one("a/b"),
		one("\x00"),
		one(strings.Repeat("b", 65)),
		one(strings.Repeat("b", 255)),
		in(two("b", "a")),
		in(api.Node{Kind: api.Link}),
		in(api.Node{Kind: api.Link, Target: "\x00"}),
		in(api.Node{Kind: api.Link, Target: strings.Repeat("/", 257)}),
		in(api.Node{Kind: api.Link, Target: strings.Repeat("/", 65535)}),
		file(1<<20 + 1),
		file(1<<32 - 1),
		file(3, api.Extent{Off: 1}),
		file(3, api.Extent{Off: 1, Data: "bcd"}),
		file(3, api.Extent{Off: 1, Data: "b"}, api.Extent{Off: 0, Data: "c"}),
		file(3, api.Extent{Off: 0, Data: "bc"}, api.Extent{Off: 1, Data: "d"}),
		file(3, api.Extent{Off: 1<<32 - 1, Data: "b"}),
		file(1<<20+1, api.Extent{Off: 1 << 20, Data: "b"}),
	}
}

// TestRights: P5.1, P5.2: trees that may be, there and back.
func TestRights(t *testing.T) {
	for i, n := range rights() {
		s, e := Encode(n)
		if want := plainImage(n); e != api.OK || s != want {
			t.Errorf("Encode %d: %.80q, %v, not %.80q", i, s, e, want)
		}
		decoded(t, strconv.Itoa(i), s, n)
	}
}

// TestWrongs: P5.2: trees that may not be have no image, though bytes could tell of them.
func TestWrongs(t *testing.T) {
	for i, n := range wrongs() {
		refuse(t, strconv.Itoa(i), n)
		none(t, strconv.Itoa(i), plainImage(n))
	}
}

// TestEncodeWrong: P5.2: trees that may not be, and of which no bytes could tell.
func TestEncodeWrong(t *testing.T) {
	white := []api.Node{{Kind: api.White}}
	endless := make([]api.Node, 1)
	endless[0] = api.Node{Kind: api.Dir, Names: []string{"a"}, Items: endless}
	for i, n := range []api.Node{
		{},
		{Kind: -1},
		{Kind: 258},
		{Kind: api.Dir, Size: 1},
		{Kind: api.Dir, Target: "a"},
		{Kind: api.Dir, Names: []string{"a"}},
		{Kind: api.Dir, Items: white},
		{Kind: api.Dir, Names: []string{"a", "b"}, Items: white},
		in(api.Node{}),
		in(api.Node{Kind: 5}),
		in(api.Node{Kind: 257}),
		in(api.Node{Kind: api.White, Opaque: true}),
		in(api.Node{Kind: api.Link, Target: "a", Size: 1}),
		in(api.Node{Kind: api.File, Size: -1}),
		in(api.Node{Kind: api.File, Size: 1 << 32}),
		in(api.Node{Kind: api.File, Target: "a"}),
		in(api.Node{Kind: api.File, Size: 3, Extents: []api.Extent{{Off: -1, Data: "b"}}}),
		in(api.Node{Kind: api.File, Names: []string{"a"}, Items: white}),
		endless[0],
	} {
		refuse(t, strconv.Itoa(i), n)
	}
}

// files: a root with four files whose image has so many bytes.
func files(bytes int) api.Node {
	big := strings.Repeat("b", 1<<20)
	root := api.Node{Kind: api.Dir}
	// The file that is last has what the others leave, of which 87 tell what all are.
	for i, size := range []int{1 << 20, 1 << 20, 1 << 20, bytes - 87 - 3<<20} {
		root.Names = append(root.Names, strconv.Itoa(i))
		root.Items = append(root.Items, api.Node{Kind: api.File, Size: size, Extents: []api.Extent{{Off: 0, Data: big[:size]}}})
	}
	return root
}

// deepFiles: a tree with files that lie deep, whose image has so many bytes, the last ones of which are those of last.
func deepFiles(bytes int, last api.Node) api.Node {
	deep := under(9, files(bytes-9*6-8-len(plainBytes(last))))
	return api.Node{Kind: api.Dir, Names: []string{"a", "b"}, Items: []api.Node{deep, last}}
}

// TestMaxImage: P5.2: an image has at most MaxImage bytes: of trees that may be, those with more have none.
func TestMaxImage(t *testing.T) {
	link := api.Node{Kind: api.Link, Target: strings.Repeat("/", 256)}
	for i, tell := range []func(bytes int) api.Node{
		files,
		func(bytes int) api.Node { return deepFiles(bytes, api.Node{Kind: api.White}) },
		func(bytes int) api.Node { return deepFiles(bytes, link) },
		func(bytes int) api.Node { return deepFiles(bytes, full(40)) },
	} {
		for _, bytes := range []int{4194304 - 1, 4194304, 4194304 + 1, 4194304 + 2, 4194304 + 16} {
			root := tell(bytes)
			s := plainImage(root)
			if !tree.Right(root) || len(s) != bytes {
				t.Fatal("no tree of", bytes, "bytes:", i, len(s))
			}
			what := strconv.Itoa(i) + " of " + strconv.Itoa(bytes)
			if bytes > 4194304 {
				refuse(t, what, root)
				none(t, what, s)
				continue
			}
			if got, e := Encode(root); e != api.OK || got != s {
				t.Errorf("Encode of %s: %d bytes, %v", what, len(got), e)
			}
			decoded(t, what, s, root)
		}
	}
}

// TestRoomEnds: P5.2: whichever byte is the first one beyond MaxImage, there is no image.
func TestRoomEnds(t *testing.T) {
	last := sample()
	for more := range len(plainBytes(last)) + 1 {
		root := deepFiles(4194304+more, last)
		if more == 0 {
			if s := encode(t, root); len(s) != 4194304 || !strings.HasSuffix(s, "\x01b"+plainBytes(last)) {
				t.Error("Encode:", len(s), "bytes")
			}
			continue
		}
		refuse(t, strconv.Itoa(more)+" bytes too many", root)
	}
}

// TestManyExtents: P5.2: as many extents as an image holds, and one more.
func TestManyExtents(t *testing.T) {
	n := api.Node{Kind: api.File, Size: 1 << 20}
	fit := (4194304 - 7 - 4 - 2 - 9) / 9
	for i := range fit {
		n.Extents = append(n.Extents, api.Extent{Off: 2 * i, Data: "b"})
	}
	decoded(t, "many extents", encode(t, in(n)), in(n))
	n.Extents = append(n.Extents, api.Extent{Off: 2 * fit, Data: "b"})
	if !tree.Right(in(n)) {
		t.Fatal("not right")
	}
	refuse(t, "too many extents", in(n))
}

// TestGreatTree: P5.2, P1: a tree has no image that would have far more bytes than memory has; little is made to tell so.
func TestGreatTree(t *testing.T) {
	big := api.Node{Kind: api.File, Size: 1 << 20, Extents: []api.Extent{{Off: 0, Data: strings.Repeat("b", 1<<20)}}}
	root := full(4095)
	for i := range root.Items {
		root.Items[i] = big
	}
	var before, after runtime.MemStats
	runtime.ReadMemStats(&before)
	refuse(t, "a great tree", root)
	runtime.ReadMemStats(&after)
	if made := after.TotalAlloc - before.TotalAlloc; made > 1<<26 {
		t.Error("bytes made to refuse:", made)
	}
}

// TestDecodeNone: P5.2: texts that are the image of none.
func TestDecodeNone(t *testing.T) {
	one := "socage1\x02\x00\x00\x01\x01a"
	for _, s := range []string{
		"",
		"s",
		"socage",
		"socage1",
		"socage2\x02\x00\x00\x00",
		"Socage1\x02\x00\x00\x00",
		"xsocage1\x02\x00\x00\x00",
		"\x02\x00\x00\x00",
		"socage1\x02",
		"socage1\x02\x00",
		"socage1\x02\x00\x00",
		"socage1\x02\x00\x00\x00\x00",
		"socage1\x02\x00\x00\x00\x04",
		"socage1\x02\x00\x00\x00socage1\x02\x00\x00\x00",
		"socage1\x02\x02\x00\x00",
		"socage1\x02\xff\x00\x00",
		"socage1\x00",
		"socage1\x04",
		"socage1\x01\x00\x00\x00\x00\x00\x00\x00\x00",
		"socage1\x03\x00\x01a",
		one,
		one + "\x00",
		one + "\x05",
		one + "\xff",
		one + "\x04\x04",
		one + "\x03",
		one + "\x03\x00",
		one + "\x03\x00\x00",
		one + "\x03\x00\x02a",
		one + "\x03\xff\xffa",
		one + "\x02\x02\x00\x00",
		one + "\x02\x00\xff\xff",
		one + "\x01\x00\x00\x00\x01\x00\x00\x00",
		one + "\x01\x00\x00\x00\x01\xff\xff\xff\xff",
		one + "\x01\x00\x00\x00\x01\x00\x00\x00\x01",
		one + "\x01\x00\x00\x00\x01\x00\x00\x00\x01\x00\x00\x00\x00",
		one + "\x01\x00\x00\x00\x01\x00\x00\x00\x01\x00\x00\x00\x00\x00\x00\x00\x00",
		one + "\x01\x00\x00\x00\x01\x00\x00\x00\x01\x00\x00\x00\x00\xff\xff\xff\xffb",
		one + "\x01\xff\xff\xff\xff\x00\x00\x00\x00",
		"socage1\x02\x00\x00\x02\x01a\x04",
		"socage1\x02\x00\x00\x01\x00\x04",
		"socage1\x02\x00\x00\x01\xffa\x04",
		"socage1\x02\x00\x00\x02\x01b\x04\x01a\x04",
		"socage1\x02\x00\x00\x02\x01a\x04\x01a\x04",
	} {
		none(t, "none", s)
	}
}

// plainRead reads a number, as the chapter says; -1, if there are too few bytes.
func plainRead(s *string, size int) int {
	if len(*s) < size {
		return -1
	}
	n := 0
	for _, b := range []byte((*s)[:size]) {
		n = n*256 + int(b)
	}
	*s = (*s)[size:]
	return n
}

// plainText reads a text behind its length; false, if there are too few bytes.
func plainText(s *string, size int) (string, bool) {
	n := plainRead(s, size)
	if n < 0 || n > len(*s) {
		return "", false
	}
	text := (*s)[:n]
	*s = (*s)[n:]
	return text, true
}

// plainNode reads a node, as the chapter says; false, if that is none.
func plainNode(s *string) (n api.Node, ok bool) {
	n.Kind = plainRead(s, 1)
	switch n.Kind {
	case 1:
		n.Size = plainRead(s, 4)
		extents := plainRead(s, 4)
		for range extents {
			off := plainRead(s, 4)
			data, ok := plainText(s, 4)
			if !ok {
				return n, false
			}
			n.Extents = append(n.Extents, api.Extent{Off: off, Data: data})
		}
		return n, extents >= 0
	case 2:
		opaque := plainRead(s, 1)
		n.Opaque = opaque == 1
		entries := plainRead(s, 2)
		for range entries {
			name, ok := plainText(s, 1)
			if !ok {
				return n, false
			}
			item, ok := plainNode(s)
			if !ok {
				return n, false
			}
			n.Names, n.Items = append(n.Names, name), append(n.Items, item)
		}
		return n, opaque <= 1 && entries >= 0
	case 3:
		n.Target, ok = plainText(s, 2)
		return n, ok
	case 4:
		return n, true
	}
	return n, false
}

// plainDecode: the tree of which s is the image, read as the chapter says; false, if there is none.
func plainDecode(s string) (api.Node, bool) {
	left := strings.TrimPrefix(s, "socage1")
	root, ok := plainNode(&left)
	ok = ok && strings.HasPrefix(s, "socage1") && left == "" && tree.Right(root) && len(s) <= 1<<22
	if !ok {
		return api.Node{}, false
	}
	return root, true
}

// check: Decode of s answers what the chapter says, and Encode of it s.
func check(t *testing.T, s string) bool {
	t.Helper()
	root, ok := plainDecode(s)
	n, e := Decode(s)
	if !tree.Same(n, root) || (e == api.OK) != ok || !ok && e != api.EINVAL {
		t.Errorf("Decode of %.80q: %+v, %v, not %+v", s, n, e, root)
	}
	if back, e := Encode(n); ok && (back != s || e != api.OK) {
		t.Errorf("Encode of Decode of %.80q: %.80q, %v", s, back, e)
	}
	return ok
}

// TestShort: P5.2: all short texts of bytes that say something.
func TestShort(t *testing.T) {
	rights := 0
	var all func(s string, more int)
	all = func(s string, more int) {
		if t.Failed() {
			return
		}
		if check(t, "socage1"+s) {
			rights++
		}
		for _, b := range "\x00\x01\x02\x03\x04b" {
			if more > 0 {
				all(s+string(b), more-1)
			}
		}
	}
	all("", 5)
	all("\x02\x00\x00\x01\x01b", 5)
	all("\x02\x01\x00\x02\x01\x01\x04", 4)
	all("\x02\x00\x00\x01\x01b\x01\x00\x00\x00\x02\x00\x00\x00\x01\x00\x00", 6)
	if rights < 20 {
		t.Error("of all short texts images:", rights)
	}
}

// TestChanged: P5.2: images of which a byte is another one, is missing, or is too many.
func TestChanged(t *testing.T) {
	s := encode(t, sample())
	changed, removed := 0, 0
	for i := range len(s) + 1 {
		for b := range 256 {
			check(t, s[:i]+string([]byte{byte(b)})+s[i:])
			if i < len(s) && check(t, s[:i]+string([]byte{byte(b)})+s[i+1:]) {
				changed++
			}
		}
		none(t, "the front", s[:max(i-1, 0)])
		if i < len(s) && check(t, s[:i]+s[i+1:]) {
			removed++
		}
	}
	// Each byte stands for itself at least, and those of texts may be nearly all others.
	if changed < len(s)+1000 || removed > len(s)/4 {
		t.Error("changed:", changed, "removed:", removed)
	}
}

// TestMixed: P5.2: images of which many bytes are others, as a fixed chance has it.
func TestMixed(t *testing.T) {
	r := rand.New(rand.NewSource(1))
	s := encode(t, sample())
	for range 20000 {
		b := []byte(s)
		for range r.Intn(4) {
			b[r.Intn(len(b))] = byte(r.Intn(6))
		}
		i, j := r.Intn(len(b)), r.Intn(len(b))
		check(t, string(b))
		check(t, string(b[:i])+string(b[j:]))
	}
}

// nested: a text that has directories in one another, so many deep, each with so many entries.
func nested(deep, entries int) string {
	return "socage1" + strings.Repeat("\x02\x00"+bytesOf(entries, 2)+"\x01a", deep)
}

// TestDecodeGreat: P5.2, P1: texts that tell of far more than is there, or than a tree has, are the image of none; little is made to tell so.
func TestDecodeGreat(t *testing.T) {
	one := "socage1\x02\x00\x00\x01\x01a"
	whites := "socage1\x02\x00\xff\xff" + strings.Repeat("\x01a\x04", 65535)
	fill := func(s, with string) string { return s + strings.Repeat(with, (1<<22-len(s))/len(with)) }
	for i, s := range []string{
		nested(16, 1) + "\x04",
		nested(690000, 1) + "\x04",
		nested(690000, 65535),
		nested(15, 65535),
		fill("socage1", "\x02\x00\xff\xff\x00"),
		whites,
		fill("socage1", "\x02\x00\xff\xff"),
		fill("socage1\x02\x00\xff\xff", "\x00\x04"),
		fill("socage1", "\x02"),
		fill("socage1\x02\x00\x00\x01\x00\x02\x00\xff\xff", "\x00\x02\x00\x00\x00"),
		fill(one+"\x01\x00\x10\x00\x00\xff\xff\xff\xff", "\x00\x00\x00\x00\x00\x00\x00\x00"),
		fill(one+"\x01\x00\x10\x00\x00\xff\xff\xff\xff", "\x00"),
		one + "\x01\x00\x10\x00\x00\xff\xff\xff\xff",
		one + "\x01\x00\x10\x00\x00\x00\x00\x00\x01\x00\x00\x00\x00\xff\xff\xff\xff",
		strings.Repeat("\x00", 1<<26),
		"socage1" + strings.Repeat("\x02", 1<<26),
		plainImage(sample()) + strings.Repeat("\x00", 1<<26),
	} {
		var before, after runtime.MemStats
		runtime.ReadMemStats(&before)
		none(t, strconv.Itoa(i), s)
		runtime.ReadMemStats(&after)
		// Of extents there may be many, of nodes there may not.
		most := uint64(1 << 22)
		if strings.HasPrefix(s, one+"\x01") {
			most = 1 << 27
		}
		if made := after.TotalAlloc - before.TotalAlloc; made > most {
			t.Error("bytes made to refuse", i, ":", made)
		}
	}
}

// TestEmptyLists: P5.1: an empty list is an empty list, nil or not.
func TestEmptyLists(t *testing.T) {
	a := api.Node{Kind: api.Dir, Names: []string{}, Items: []api.Node{}, Extents: []api.Extent{}}
	b := in(api.Node{Kind: api.File, Names: []string{}, Items: []api.Node{}, Extents: []api.Extent{}})
	if encode(t, a) != "socage1\x02\x00\x00\x00" || encode(t, b) != plainImage(in(api.Node{Kind: api.File})) {
		t.Error("Encode of empty lists")
	}
}

// TestHandedIn: P2: Encode changes nothing in a tree, nor behind its lists, and hangs on nothing that was ahead.
func TestHandedIn(t *testing.T) {
	names, items := []string{"a", "b", "c"}, []api.Node{sample(), {Kind: api.White}, {Kind: api.Link, Target: "x"}}
	extents := []api.Extent{{Off: 0, Data: "b"}, {Off: 1, Data: "c"}}
	file := api.Node{Kind: api.File, Size: 1, Extents: extents[:1]}
	root := api.Node{Kind: api.Dir, Names: names[:2], Items: items[:2]}
	first := encode(t, root)
	encode(t, in(file))
	refuse(t, "a whiteout", items[1])
	if !tree.Same(root, api.Node{Kind: api.Dir, Names: []string{"a", "b"}, Items: []api.Node{sample(), {Kind: api.White}}}) {
		t.Error("Encode changed what was handed in")
	}
	if names[2] != "c" || items[2].Target != "x" || extents[1] != (api.Extent{Off: 1, Data: "c"}) {
		t.Error("Encode changed the room behind what was handed in")
	}
	if encode(t, root) != first {
		t.Error("Encode again")
	}
}

// behind: the lists of n have something put behind them, and those of all in it.
func behind(n api.Node) {
	_ = append(n.Names, "x")
	_ = append(n.Items, api.Node{Kind: 9})
	_ = append(n.Extents, api.Extent{Off: 9, Data: "x"})
	for _, x := range n.Items {
		behind(x)
	}
}

// scratch: all lists in n are written to.
func scratch(n api.Node) {
	for i := range n.Names {
		n.Names[i] = "x"
	}
	for i := range n.Extents {
		n.Extents[i] = api.Extent{Off: 9, Data: "x"}
	}
	for i := range n.Items {
		scratch(n.Items[i])
		n.Items[i] = api.Node{Kind: 9}
	}
}

// TestAnswered: P2: what Decode answers shares no list with another answer, nor within itself.
func TestAnswered(t *testing.T) {
	s := encode(t, sample())
	first, e := Decode(s)
	second, f := Decode(s)
	if e != api.OK || f != api.OK {
		t.Fatal("Decode:", e, f)
	}
	behind(first)
	if !tree.Same(first, sample()) {
		t.Error("lists of one answer share memory")
	}
	scratch(first)
	if !tree.Same(second, sample()) {
		t.Error("two answers share memory")
	}
	decoded(t, "the same again", s, sample())
}

// TestAnsweredAlone: P2: the lists of an answer are written to one by one: no other one has changed.
func TestAnsweredAlone(t *testing.T) {
	n, _ := Decode(encode(t, in(sample())))
	inner := n.Items[0]
	kept := slices.Clone(inner.Items)
	scratch(inner.Items[4])
	inner.Names[0] = "x"
	if !tree.Same(kept[0], sample().Items[0]) || !slices.Equal(n.Names, []string{"a"}) || !slices.Equal(inner.Names, []string{"x", "ab", "b", "c", "d"}) {
		t.Error("lists of one answer share memory")
	}
}

// TestAllArguments: P1: both calls end, and none panics, whatever the trees and texts.
func TestAllArguments(t *testing.T) {
	for _, n := range append(wrongs(), rights()...) {
		Encode(n)
		Encode(in(n))
		Encode(under(1<<16, n))
		Decode(plainImage(n))
		Decode(plainBytes(n))
	}
	for kind := -2; kind < 300; kind++ {
		n := api.Node{Kind: kind, Opaque: true, Names: []string{"b", "a"}, Items: []api.Node{{}}, Size: -1, Extents: []api.Extent{{Off: -1}}, Target: "\x00"}
		Encode(n)
		Encode(in(n))
		Encode(in(api.Node{Kind: kind}))
		Decode("socage1" + string([]byte{byte(kind)}))
	}
	if extent.MaxSize != 1<<20 {
		t.Error("these tests are of another MaxSize")
	}
}
