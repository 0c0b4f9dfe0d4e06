package octet_test

import (
	"math"
	"slices"
	"strings"
	"testing"

	"scrinium/api"
	"scrinium/octet"
)

// isAt fails if the scanner is spoilt, or has not that many bytes left.
func isAt(t *testing.T, what string, x *octet.Scan, left int) {
	t.Helper()
	end := api.OK
	if left > 0 {
		end = api.ErrForm
	}
	if !x.Sound() || x.Left() != left || x.End() != end {
		t.Errorf("%s: sound %v, left %d, end %d; want true, %d, %d", what, x.Sound(), x.Left(), x.End(), left, end)
	}
}

// isSilent fails if any call of a spoilt or nil scanner tells something.
func isSilent(t *testing.T, what string, x *octet.Scan) {
	t.Helper()
	for range 2 {
		if x.Sound() || x.Left() != 0 || x.End() != api.ErrForm {
			t.Errorf("%s: sound %v, left %d, end %d", what, x.Sound(), x.Left(), x.End())
		}
		if n := x.Long(); n != 0 {
			t.Errorf("%s: Long %d", what, n)
		}
		for _, most := range []int{math.MinInt, -1, 0, 1, math.MaxInt} {
			if n, s, l := x.Num(most), x.Text(most), x.List(most); n != 0 || s != "" || len(l) != 0 {
				t.Errorf("%s: most %d: %d, %q, %q", what, most, n, s, l)
			}
		}
	}
}

// P1.2
func TestLong(t *testing.T) {
	for _, c := range []struct {
		bytes string
		want  uint64
		left  int
	}{
		{"00", 0, 0},
		{"00 00", 0, 1},
		{"00 09", 0, 1},
		{"01 01", 1, 0},
		{"01 ff ff", 255, 1},
		{"02 01 02", 258, 0},
		{"02 01 00", 256, 0},
		{"08 ff ff ff ff ff ff ff ff", math.MaxUint64, 0},
		{"08 01 00 00 00 00 00 00 00 07", 1 << 56, 1},
	} {
		x := octet.Read(fromHex(t, c.bytes))
		if n := x.Long(); n != c.want {
			t.Errorf("Long of %s: %d, want %d", c.bytes, n, c.want)
		}
		isAt(t, "Long of "+c.bytes, x, c.left)
	}
}

// noNumbers are bytes at whose beginning no number stands: none at all, a first byte above 8, missing ones, a number's first byte 0.
func noNumbers() []string {
	l := []string{
		"", "\x01", "\x02\x01", "\x08\x01\x02\x03\x04\x05\x06\x07",
		"\x01\x00", "\x01\x00\x07", "\x02\x00\x07", "\x02\x00\x00", "\x08\x00\x01\x01\x01\x01\x01\x01\x01",
	}
	for first := 9; first < 256; first++ {
		l = append(l, string([]byte{byte(first)})+strings.Repeat("\x01", 255))
	}
	return l
}

// P1.2
func TestNoNumberSpoils(t *testing.T) {
	for _, s := range noNumbers() {
		for what, ask := range map[string]func(*octet.Scan) bool{
			"Long": func(x *octet.Scan) bool { return x.Long() == 0 },
			"Num":  func(x *octet.Scan) bool { return x.Num(math.MaxInt) == 0 },
			"Text": func(x *octet.Scan) bool { return x.Text(math.MaxInt) == "" },
			"List": func(x *octet.Scan) bool { return len(x.List(math.MaxInt)) == 0 },
		} {
			x := octet.Read(s)
			if !ask(x) {
				t.Errorf("%s of % x tells something", what, s)
			}
			isSilent(t, what, x)
		}
	}
}

// P1.2
func TestNum(t *testing.T) {
	for _, c := range []struct {
		n    uint64
		most int
		ok   bool
	}{
		{0, 0, true},
		{1, 0, false},
		{0, -1, false},
		{0, math.MinInt, false},
		{1, -1, false},
		{math.MaxUint64, -1, false},
		{299, 300, true},
		{300, 300, true},
		{301, 300, false},
		{math.MaxInt, math.MaxInt, true},
		{math.MaxInt, math.MaxInt - 1, false},
		{math.MaxInt + 1, math.MaxInt, false},
		{math.MaxUint64, math.MaxInt, false},
		{math.MaxUint64, 0, false},
	} {
		x := octet.Read(octet.Put(c.n) + "\x00")
		got := x.Num(c.most)
		if !c.ok {
			if got != 0 {
				t.Errorf("Num(%d) of %d: %d", c.most, c.n, got)
			}
			isSilent(t, "Num", x)
			continue
		}
		if uint64(got) != c.n {
			t.Errorf("Num(%d) of %d: %d", c.most, c.n, got)
		}
		isAt(t, "Num", x, 1)
	}
}

// P1.2
func TestTextRead(t *testing.T) {
	for _, c := range []struct {
		bytes, want string
		most, left  int
		ok          bool
	}{
		{"\x00", "", 0, 0, true},
		{"\x00", "", -1, 0, false},
		{"\x00z", "", math.MaxInt, 1, true},
		{"\x01\x02ab", "ab", 2, 0, true},
		{"\x01\x02abc", "ab", 2, 1, true},
		{"\x01\x02ab", "ab", math.MaxInt, 0, true},
		{"\x01\x02ab", "", 1, 0, false},
		{"\x01\x02ab", "", 0, 0, false},
		{"\x01\x02ab", "", math.MinInt, 0, false},
		{"\x01\x02a", "", 2, 0, false},
		{"\x01\x02", "", 2, 0, false},
		{"\x08\x7f\xff\xff\xff\xff\xff\xff\xffab", "", math.MaxInt, 0, false},
		{"\x08\xff\xff\xff\xff\xff\xff\xff\xffab", "", math.MaxInt, 0, false},
	} {
		x := octet.Read(c.bytes)
		isBytes(t, "Text", x.Text(c.most), c.want)
		if c.ok {
			isAt(t, "Text", x, c.left)
		} else {
			isSilent(t, "Text", x)
		}
	}
}

// P1.2
func TestListRead(t *testing.T) {
	for _, c := range []struct {
		bytes string
		want  []string
		most  int
		left  int
		ok    bool
	}{
		{"\x00", nil, 0, 0, true},
		{"\x00", nil, -1, 0, false},
		{"\x00z", nil, 5, 1, true},
		{"\x01\x01\x00", []string{""}, 1, 0, true},
		{"\x01\x01\x00", nil, 0, 0, false},
		{"\x01\x02\x01\x01c\x01\x01dz", []string{"c", "d"}, 2, 1, true},
		{"\x01\x02\x01\x01c\x01\x01d", []string{"c", "d"}, math.MaxInt, 0, true},
		{"\x01\x02\x01\x01c\x01\x01d", nil, 1, 0, false},
		{"\x01\x02\x01\x01c\x01\x01d", nil, math.MinInt, 0, false},
		{"\x01\x02\x01\x01c\x01\x02d", nil, 2, 0, false},
		{"\x01\x02\x01\x01c", nil, 2, 0, false},
		{"\x01\x02\x01\x01c\x09", nil, 2, 0, false},
		{"\x01\x02\x02\x00\x01c\x00", nil, 2, 0, false},
		{"\x01\x01", nil, 1, 0, false},
	} {
		x := octet.Read(c.bytes)
		if got := x.List(c.most); !slices.Equal(got, c.want) {
			t.Errorf("List(%d) of % x: %q, want %q", c.most, c.bytes, got, c.want)
		}
		if c.ok {
			isAt(t, "List", x, c.left)
		} else {
			isSilent(t, "List", x)
		}
	}
}

// P1, P1.2: a number of texts far above what stands behind it is answered at once.
func TestListOfMoreThanThereIs(t *testing.T) {
	for _, n := range []uint64{1 << 40, math.MaxInt, math.MaxUint64} {
		x := octet.Read(octet.Put(n) + octet.Text("a") + octet.Text("b"))
		if l := x.List(math.MaxInt); len(l) != 0 {
			t.Errorf("a list of %d: %q", n, l)
		}
		isSilent(t, "List", x)
	}
}

// P1.2: MaxText bounds the texts of a list, but not a text that is read by its own bound.
func TestMaxText(t *testing.T) {
	longest := strings.Repeat("x", api.MaxText)
	x := octet.Read(octet.List("a", longest) + "z")
	if l := x.List(2); !slices.Equal(l, []string{"a", longest}) {
		t.Error("a list with a text of MaxText bytes is not read")
	}
	isAt(t, "List", x, 1)
	x = octet.Read(octet.List("a", longest+"x", "b"))
	if l := x.List(3); len(l) != 0 {
		t.Error("a list with a text above MaxText is read")
	}
	isSilent(t, "List", x)
	x = octet.Read(octet.Text(longest + "x"))
	if s := x.Text(api.MaxText + 1); s != longest+"x" {
		t.Error("a text above MaxText, but not above most, is not read")
	}
	isAt(t, "Text", x, 0)
	x = octet.Read(octet.Text(longest + "x"))
	if s := x.Text(api.MaxText); s != "" {
		t.Error("a text above most is read")
	}
	isSilent(t, "Text", x)
}

// P1.2: what was read ahead of it stands; all behind it is lost, whatever the bytes are.
func TestSpoiltInTheMiddle(t *testing.T) {
	x := octet.Read(octet.Put(7) + octet.Text("ab") + octet.Put(3))
	if n := x.Long(); n != 7 {
		t.Errorf("Long: %d", n)
	}
	if s := x.Text(1); s != "" {
		t.Errorf("Text: %q", s)
	}
	isSilent(t, "behind a text above most", x)
}

// P1.2
func TestEnd(t *testing.T) {
	x := octet.Read("\x02\x00\x07")
	if n, e := x.Long(), x.End(); n != 0 || e != api.ErrForm {
		t.Errorf("Long, End: %d, %d", n, e)
	}
	x = octet.Read("\x00\x00")
	if e := x.End(); e != api.ErrForm {
		t.Errorf("End with bytes left: %d", e)
	}
	isAt(t, "End asks, and does not spoil", x, 2)
	x.Long()
	x.Num(0)
	isAt(t, "at the end", x, 0)
	x.Long()
	isSilent(t, "behind the end", x)
}

// R1
func TestNilAndZeroScanner(t *testing.T) {
	isSilent(t, "nil", nil)
	var zero octet.Scan
	isAt(t, "zero", &zero, 0)
	isAt(t, "of nothing", octet.Read(""), 0)
	for what, ask := range map[string]func(*octet.Scan){
		"Long": func(x *octet.Scan) { x.Long() },
		"Num":  func(x *octet.Scan) { x.Num(9) },
		"Text": func(x *octet.Scan) { x.Text(9) },
		"List": func(x *octet.Scan) { x.List(9) },
	} {
		var x octet.Scan
		ask(&x)
		isSilent(t, what+" of a zero one", &x)
	}
}

// R3: a list that was told is its owner's.
func TestToldListIsItsOwners(t *testing.T) {
	s := octet.List("a", "b")
	x := octet.Read(s + s)
	first := x.List(2)
	first[0] = "z"
	first = append(first[:1], "y")
	second := x.List(2)
	if !slices.Equal(second, []string{"a", "b"}) || !slices.Equal(first, []string{"z", "y"}) {
		t.Errorf("lists that were told share something: %q, %q", first, second)
	}
	isAt(t, "List", x, 0)
}
