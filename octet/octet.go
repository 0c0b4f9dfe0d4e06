// Package octet is layer 1: numbers, texts and lists as bytes, each in one way alone. See shared/doc/01-octet.md.
package octet

import (
	"math/bits"
	"strings"

	"scrinium/api"
)

// mostBytes is how many bytes a number needs at most: a first byte above it begins none.
const mostBytes = 8

// Put puts a number: how many bytes it needs, and these, the greatest first. As 0 needs none, no number has two forms.
func Put(n uint64) string {
	need := Size(n) - 1
	b := make([]byte, 0, 1+need)
	b = append(b, byte(need))
	for i := range need {
		b = append(b, byte(n>>(8*(need-1-i))))
	}
	return string(b)
}

// Size is how many bytes Put has of n.
func Size(n uint64) int { return 1 + (bits.Len64(n)+7)/8 }

// Text puts a text. Its length stands ahead of it, so that nothing behind it can be taken for a part of it.
func Text(s string) string { return Put(uint64(len(s))) + s }

// List puts texts, with how many there are ahead of them.
func List(l ...string) string {
	var b strings.Builder
	b.WriteString(Put(uint64(len(l))))
	for _, s := range l {
		b.WriteString(Text(s))
	}
	return b.String()
}

// Scan reads what was put, one behind the other. The zero one is at the end of nothing, and not spoilt.
type Scan struct {
	rest   string
	spoilt bool
}

// Read is a scanner at the beginning of s.
func Read(s string) *Scan { return &Scan{rest: s} }

// Long reads a number.
func (x *Scan) Long() uint64 {
	if !x.Sound() {
		return 0
	}
	n, size, ok := number(x.rest)
	if !ok {
		x.spoil()
		return 0
	}
	x.rest = x.rest[size:]
	return n
}

// number is the number at the beginning of s, and how many bytes it has there.
func number(s string) (n uint64, size int, ok bool) {
	if s == "" || s[0] > mostBytes || len(s) <= int(s[0]) {
		return 0, 0, false
	}
	size = 1 + int(s[0])
	// A leading byte 0 would be a second form of a lesser number.
	if size > 1 && s[1] == 0 {
		return 0, 0, false
	}
	for i := range size - 1 {
		n = n<<8 | uint64(s[1+i])
	}
	return n, size, true
}

// Num reads a number that is not above most.
func (x *Scan) Num(most int) int {
	n := x.Long()
	// The numbers are compared without a sign: one above the greatest int must not look like one below 0.
	if most < 0 || n > uint64(most) {
		x.spoil()
		return 0
	}
	return int(n)
}

// Text reads a text of at most most bytes.
func (x *Scan) Text(most int) string {
	n := x.Num(most)
	if n > x.Left() {
		x.spoil()
	}
	if !x.Sound() {
		return ""
	}
	s := x.rest[:n]
	x.rest = x.rest[n:]
	return s
}

// List reads a list of at most most texts.
func (x *Scan) List(most int) []string {
	next := func() (string, bool) {
		s := x.Text(api.MaxText)
		return s, x.Sound()
	}
	var l []string
	// The list grows as texts are found: the number ahead of them may be far greater than what stands there.
texts:
	for range x.Num(most) {
		s, ok := next()
		if !ok {
			l = nil
			break texts
		}
		l = append(l, s)
	}
	return l
}

// Left is how many bytes are not read yet.
func (x *Scan) Left() int {
	if !x.Sound() {
		return 0
	}
	return len(x.rest)
}

// Sound tells whether all that was asked for was there.
func (x *Scan) Sound() bool { return x != nil && !x.spoilt }

// End is OK if all was there, and nothing stands behind it.
func (x *Scan) End() api.Errno {
	if !x.Sound() || x.rest != "" {
		return api.ErrForm
	}
	return api.OK
}

// spoil gives the rest up too: a spoilt scanner needs it no more.
func (x *Scan) spoil() {
	if x != nil {
		*x = Scan{spoilt: true}
	}
}
