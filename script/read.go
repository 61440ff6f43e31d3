package script

import (
	"strings"

	"socage/call"
)

// What the last line that was read was one of: lines come in this order.
const (
	ofNothing = iota
	ofRoom
	ofClients
	ofPicks
)

// reader is a Script, as far as it was read.
type reader struct {
	Script
	last int
}

// take: a line more; false: there is no script with it.
func (r *reader) take(line string) bool {
	word, rest, _ := strings.Cut(line, " ")
	switch {
	case r.last == ofNothing:
		return word == roomWord && r.room(rest)
	case r.last == ofPicks:
		return false
	case word == imageWord:
		return r.last == ofRoom && r.image(rest)
	case line == clientWord:
		r.last = ofClients
		r.Clients = append(r.Clients, nil)
		return true
	case word == pickWord:
		return r.picks(rest)
	}
	return r.last == ofClients && r.call(line)
}

// room: how much there is.
func (r *reader) room(words string) bool {
	l, ok := numbers(words)
	if !ok || len(l) != 3 {
		return false
	}
	r.last = ofRoom
	r.Config.Shards, r.Config.Room, r.Config.Cursors = l[0], l[1], l[2]
	return true
}

// image: that of a branch upon those that were read.
func (r *reader) image(word string) bool {
	s, ok := call.Bytes(word)
	if ok {
		r.Images = append(r.Images, s)
	}
	return ok
}

// call: one more of the client that was read last.
func (r *reader) call(line string) bool {
	op, ok := call.Parse(line)
	if ok {
		ops := &r.Clients[len(r.Clients)-1]
		*ops = append(*ops, op)
	}
	return ok
}

// picks: all of them.
func (r *reader) picks(words string) (ok bool) {
	r.last = ofPicks
	r.Picks, ok = numbers(words)
	return ok
}

// numbers: at least one, those of words; false: one of these is none.
func numbers(words string) ([]int, bool) {
	var l []int
	for w := range strings.SplitSeq(words, " ") {
		n, ok := call.Number(w)
		if !ok {
			return nil, false
		}
		l = append(l, n)
	}
	return l, true
}
