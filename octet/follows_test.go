package octet_test

import (
	"math"
	"slices"
	"strings"
	"testing"

	"scrinium/api"
	"scrinium/octet"
)

// texts are some, such as look like numbers, texts and lists among them.
func texts() []string {
	return []string{
		"", "\x00", "\x01", "\x00\x00", "\x01\x01", "\x01\x01\x00", "a", "ab", "b", "\xff",
		octet.Text("a"), octet.List("a"), octet.Put(math.MaxUint64),
		strings.Repeat("x", 255), strings.Repeat("x", 256), strings.Repeat("x", 65536),
	}
}

// lists are those of none, of one and of two texts, and one of many.
func lists() [][]string {
	l := [][]string{nil, slices.Repeat([]string{"", "q"}, 200)}
	for _, a := range texts() {
		l = append(l, []string{a})
		for _, b := range texts() {
			l = append(l, []string{a, b})
		}
	}
	return l
}

// behind are bytes that may stand behind what was put.
func behind() []string {
	return []string{"", "\x00", "\xff", octet.Put(258), octet.Text("ab"), octet.List("a", "")}
}

// P1.3
func TestWhatWasPutIsReadAgain(t *testing.T) {
	for _, after := range behind() {
		for _, n := range numbers() {
			x := octet.Read(octet.Put(n) + after)
			if got := x.Long(); got != n {
				t.Errorf("Long of Put(%d): %d", n, got)
			}
			isAt(t, "Long", x, len(after))
		}
		for _, s := range texts() {
			x := octet.Read(octet.Text(s) + after)
			isBytes(t, "Text of Text", x.Text(len(s)), s)
			isAt(t, "Text", x, len(after))
		}
		for _, l := range lists() {
			x := octet.Read(octet.List(l...) + after)
			if got := x.List(len(l)); !slices.Equal(got, l) {
				t.Errorf("List of List(%q): %q", l, got)
			}
			isAt(t, "List", x, len(after))
		}
	}
}

// P1.3
func TestManyBehindEachOther(t *testing.T) {
	var b strings.Builder
	for _, n := range numbers() {
		b.WriteString(octet.Put(n) + octet.Text(octet.Put(n)) + octet.List(octet.Put(n), ""))
	}
	x := octet.Read(b.String())
	for _, n := range numbers() {
		if got := x.Long(); got != n {
			t.Fatalf("Long: %d, want %d", got, n)
		}
		isBytes(t, "Text", x.Text(9), octet.Put(n))
		if got := x.List(2); !slices.Equal(got, []string{octet.Put(n), ""}) {
			t.Fatalf("List: %q", got)
		}
	}
	isAt(t, "behind all", x, 0)
}

// noneBegins fails if bytes of the list are those of another place, or begin them.
func noneBegins(t *testing.T, what string, l []string) {
	t.Helper()
	l = slices.Clone(l)
	slices.Sort(l)
	for i := range len(l) - 1 { // sorted, what begins some stands right ahead of one of these
		if strings.HasPrefix(l[i+1], l[i]) {
			t.Errorf("%s: % x begins % x", what, l[i], l[i+1])
		}
	}
}

// P1.3
func TestNoneBeginsAnother(t *testing.T) {
	var put []string
	all := numbers()
	for n := range 70000 {
		all = append(all, uint64(n))
	}
	slices.Sort(all)
	for _, n := range slices.Compact(all) {
		put = append(put, octet.Put(n))
	}
	noneBegins(t, "Put", put)
	put = nil
	for _, s := range texts() {
		put = append(put, octet.Text(s))
	}
	noneBegins(t, "Text", put)
	put = nil
	for _, l := range lists() {
		put = append(put, octet.List(l...))
	}
	noneBegins(t, "List", put)
}

// shortBytes are all rows of at most n bytes of those that matter ahead of the others.
func shortBytes(n int) []string {
	l := []string{""}
	for from := 0; n > 0; n-- {
		to := len(l)
		for _, s := range l[from:to] {
			for _, c := range "\x00\x01\x02\x03\x09a" {
				l = append(l, s+string(c))
			}
		}
		from = to
	}
	return l
}

// P1.3, P1: whatever the bytes are: what is read is what was put there, or there is nothing.
func checkOneWay(t *testing.T, s string) {
	t.Helper()
	ask := func(what string, read func(*octet.Scan) string) {
		x := octet.Read(s)
		put := read(x)
		if !x.Sound() {
			isSilent(t, what, x)
			return
		}
		isBytes(t, what, put+s[len(s)-x.Left():], s)
		isAt(t, what, x, len(s)-len(put))
	}
	ask("Long", func(x *octet.Scan) string { return octet.Put(x.Long()) })
	ask("Num", func(x *octet.Scan) string { return octet.Put(uint64(x.Num(math.MaxInt))) })
	ask("Text", func(x *octet.Scan) string { return octet.Text(x.Text(api.MaxText)) })
	ask("List", func(x *octet.Scan) string { return octet.List(x.List(math.MaxInt)...) })
}

// P1.3
func TestOneWayAlone(t *testing.T) {
	for _, s := range shortBytes(6) {
		checkOneWay(t, s)
	}
}

func FuzzOneWayAlone(f *testing.F) {
	for _, s := range behind() {
		f.Add(s)
	}
	f.Fuzz(checkOneWay)
}
