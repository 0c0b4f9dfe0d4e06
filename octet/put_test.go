package octet_test

import (
	"encoding/hex"
	"math"
	"strings"
	"testing"

	"scrinium/octet"
)

// fromHex makes bytes of hexadecimal digits, blanks among them or not.
func fromHex(t *testing.T, s string) string {
	t.Helper()
	b, err := hex.DecodeString(strings.ReplaceAll(s, " ", ""))
	if err != nil {
		t.Fatal(err)
	}
	return string(b)
}

func isBytes(t *testing.T, what, got, want string) {
	t.Helper()
	if got != want {
		t.Errorf("%s: % x, want % x", what, got, want)
	}
}

// numbers are 0, the greatest one, and all beside a power of two.
func numbers() []uint64 {
	l := []uint64{0, math.MaxUint64, 258, 300}
	for i := range 64 {
		l = append(l, 1<<i-1, 1<<i, 1<<i+1)
	}
	return l
}

// P1.1
func TestPut(t *testing.T) {
	for _, c := range []struct {
		n    uint64
		want string
	}{
		{0, "00"},
		{1, "01 01"},
		{255, "01 ff"},
		{256, "02 01 00"},
		{258, "02 01 02"},
		{65535, "02 ff ff"},
		{65536, "03 01 00 00"},
		{0x0102030405060708, "08 01 02 03 04 05 06 07 08"},
		{1 << 56, "08 01 00 00 00 00 00 00 00"},
		{1<<56 - 1, "07 ff ff ff ff ff ff ff"},
		{math.MaxInt64, "08 7f ff ff ff ff ff ff ff"},
		{math.MaxUint64, "08 ff ff ff ff ff ff ff ff"},
	} {
		isBytes(t, "Put", octet.Put(c.n), fromHex(t, c.want))
	}
}

// P1.1
func TestSizeIsThatOfPut(t *testing.T) {
	for _, n := range numbers() {
		if got, want := octet.Size(n), len(octet.Put(n)); got != want {
			t.Errorf("Size(%d): %d, want %d", n, got, want)
		}
	}
	for n, want := range map[uint64]int{0: 1, 1: 2, 255: 2, 256: 3, math.MaxUint64: 9} {
		if got := octet.Size(n); got != want {
			t.Errorf("Size(%d): %d, want %d", n, got, want)
		}
	}
}

// P1.1
func TestText(t *testing.T) {
	for _, c := range []struct{ s, want string }{
		{"", "00"},
		{"ab", "01 02 61 62"},
		{"\x00", "01 01 00"},
		{"\xff\xfe", "01 02 ff fe"},
		{"ä", "01 02 c3 a4"},
	} {
		isBytes(t, "Text", octet.Text(c.s), fromHex(t, c.want))
	}
	long := strings.Repeat("x", 256)
	isBytes(t, "Text of 256 bytes", octet.Text(long), "\x02\x01\x00"+long)
}

// P1.1
func TestList(t *testing.T) {
	for _, c := range []struct {
		l    []string
		want string
	}{
		{nil, "00"},
		{[]string{}, "00"},
		{[]string{""}, "01 01 00"},
		{[]string{"", ""}, "01 02 00 00"},
		{[]string{"a", ""}, "01 02 01 01 61 00"},
		{[]string{"", "a"}, "01 02 00 01 01 61"},
	} {
		isBytes(t, "List", octet.List(c.l...), fromHex(t, c.want))
	}
	isBytes(t, "List of no texts", octet.List(), "\x00")
	isBytes(t, "List of 300", octet.List(make([]string, 300)...), "\x02\x01\x2c"+strings.Repeat("\x00", 300))
}

// R3: what is handed in stays as it is.
func TestListLeavesWhatItIsHanded(t *testing.T) {
	l := append(make([]string, 0, 9), "a", "b")
	told := octet.List(l...)
	if l[0] != "a" || l[1] != "b" || len(l[:3][2]) != 0 {
		t.Errorf("List changed what it was handed: %q", l[:3])
	}
	l[0] = "z"
	isBytes(t, "List behind a change of its argument", told, octet.List("a", "b"))
}
