package call

import (
	"strconv"
	"strings"
)

// digits are those of 16.
const digits = "0123456789abcdef"

// none is the word of no bytes.
const none = "-"

// Hex: bytes in words; - of none.
func Hex(s string) string {
	if s == "" {
		return none
	}
	var b strings.Builder
	b.Grow(2 * len(s))
	for i := range len(s) {
		b.WriteByte(digits[s[i]>>4])
		b.WriteByte(digits[s[i]&15])
	}
	return b.String()
}

// Bytes: the bytes of such words; false: they are none.
func Bytes(w string) (string, bool) {
	if w == none {
		return "", true
	}
	if w == "" || len(w)%2 != 0 {
		return "", false
	}
	var b strings.Builder
	b.Grow(len(w) / 2)
	for i := 0; i < len(w); i += 2 {
		high, low := strings.IndexByte(digits, w[i]), strings.IndexByte(digits, w[i+1])
		if high < 0 || low < 0 {
			return "", false
		}
		b.WriteByte(byte(high<<4 | low))
	}
	return b.String(), true
}

// Number: the number of a word, as it is written; false: it is none.
func Number(w string) (int, bool) {
	n, err := strconv.Atoi(w)
	// Atoi takes noughts and a + ahead too, with which no number is written here.
	if err != nil || strconv.Itoa(n) != w {
		return 0, false
	}
	return n, true
}
