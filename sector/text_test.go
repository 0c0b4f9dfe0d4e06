package sector_test

import (
	"strings"
	"testing"

	"scrinium/api"
	"scrinium/octet"
	"scrinium/sector"
)

// text has n bytes, of all values, the first one not 0.
func text(n int) string {
	b := make([]byte, n)
	for i := range b {
		b[i] = byte(1 + i*167 + i>>8)
	}
	return string(b)
}

// zeros are n bytes 0.
func zeros(n int) string { return strings.Repeat("\x00", n) }

// opensAs fails if Open of a sector tells another text, or none.
func opensAs(t *testing.T, what, s, want string) {
	t.Helper()
	if got, ok := sector.Open(s); !ok || got != want {
		t.Errorf("%s: Open of % x: % x, %v, want % x, true", what, s, got, ok, want)
	}
}

// isNoFill fails if Open takes bytes for the Fill of a text.
func isNoFill(t *testing.T, what, s string) {
	t.Helper()
	if got, ok := sector.Open(s); ok || got != "" {
		t.Errorf("%s: Open of % x: % x, %v, want nothing, false", what, s, got, ok)
	}
}

// isFilled fails if the Fill of s is not what the chapter says, or isn't opened again.
func isFilled(t *testing.T, s string) {
	t.Helper()
	put := octet.Text(s)
	want := put + zeros(256-len(put))
	if got, err := sector.Fill(s); err != api.OK || got != want {
		t.Errorf("Fill of % x: % x, %v, want % x", s, got, err, want)
	}
	opensAs(t, "filled", want, s)
}

// isTooLong fails if s is filled in, or anything is told beside the error.
func isTooLong(t *testing.T, s string) {
	t.Helper()
	if got, err := sector.Fill(s); err != api.ErrSize || got != "" {
		t.Errorf("Fill of %d bytes: %d bytes, %v", len(s), len(got), err)
	}
}

// P5.1: bytes as they stand.
func TestFillBytes(t *testing.T) {
	for _, c := range []struct{ s, ahead string }{
		{"", "\x00"},
		{"ab", "\x01\x02ab"},
		{"\x00", "\x01\x01\x00"},
		{"\xff\xfe", "\x01\x02\xff\xfe"},
		{text(253), "\x01\xfd" + text(253)},
		{text(254), "\x01\xfe" + text(254)},
	} {
		got, err := sector.Fill(c.s)
		if want := c.ahead + zeros(256-len(c.ahead)); err != api.OK || got != want {
			t.Errorf("Fill of % x: % x, %v", c.s, got, err)
		}
	}
}

// P5.1: the texts of all lengths that fit, whatever bytes they have, and are opened again.
func TestFillAndOpen(t *testing.T) {
	for n := range 255 {
		isFilled(t, text(n))
		isFilled(t, zeros(n))
		isFilled(t, strings.Repeat("\xff", n))
		isFilled(t, text(n)[:n/2]+zeros(n-n/2))
	}
	for x := range 256 {
		isFilled(t, string([]byte{byte(x)}))
	}
	isFilled(t, octet.Text("a"))
}

// P5.1, R5: 254 bytes just fit, 255 just don't, nor does any longer text.
func TestFillOfLongTexts(t *testing.T) {
	isFilled(t, text(254))
	for n := 255; n < 600; n++ {
		isTooLong(t, text(n))
		isTooLong(t, zeros(n))
	}
	isTooLong(t, text(65535))
	isTooLong(t, text(65536))
	isTooLong(t, text(api.MaxText))
	isTooLong(t, text(api.MaxText+1))
}

// P5.1: no two texts have one Fill.
func TestFillsDiffer(t *testing.T) {
	seen := map[string]string{}
	for n := range 255 {
		for _, s := range []string{text(n), zeros(n), "x" + zeros(max(n-1, 0))} {
			full, _ := sector.Fill(s)
			if other, ok := seen[full]; ok && other != s {
				t.Fatalf("% x and % x have one Fill", other, s)
			}
			seen[full] = s
		}
	}
}

// P5.1: what has not 256 bytes is the Fill of no text.
func TestOpenOfOtherLengths(t *testing.T) {
	isNoFill(t, "nothing", "")
	isNoFill(t, "a text alone", octet.Text("ab"))
	for _, n := range []int{0, 1, 2, 100, 253, 254} {
		full, _ := sector.Fill(text(n))
		isNoFill(t, "a byte less", full[:255])
		isNoFill(t, "a byte 0 more", full+"\x00")
		isNoFill(t, "a byte more", full+"x")
		isNoFill(t, "twice", full+full)
		isNoFill(t, "a byte ahead", "\x00"+full)
	}
	for n := range 256 {
		isNoFill(t, "too few bytes 0", zeros(n))
	}
	isNoFill(t, "257 bytes 0", zeros(257))
	isNoFill(t, "a text of 255 bytes", octet.Text(text(255)))
	isNoFill(t, "a text of 256 bytes", octet.Text(text(256)))
	isNoFill(t, "a long text", octet.Text(text(api.MaxText+1)))
}

// P5.1: 256 bytes that are the Fill of no text.
func TestOpenOfOtherBytes(t *testing.T) {
	for c := 1; c < 256; c++ {
		isNoFill(t, "all bytes alike", strings.Repeat(string([]byte{byte(c)}), 256))
	}
	for _, c := range []struct{ what, ahead string }{
		{"a length of 0 in a second form", "\x01\x00"},
		{"a length of 2 in a second form", "\x02\x00\x02ab"},
		{"a length of 8 bytes", "\x08\x01\x00\x00\x00\x00\x00\x00\x00"},
		{"a length that has no sign", "\x08\xff\xff\xff\xff\xff\xff\xff\xff"},
		{"a length of 9 bytes", "\x09\x01"},
		{"255 bytes of 254", "\x01\xff"},
		{"256 bytes of 253", "\x02\x01\x00"},
		{"257 bytes of 253", "\x02\x01\x01"},
		{"65536 bytes", "\x03\x01\x00\x00"},
		{"a byte behind nothing", "\x00\x01"},
		{"a byte behind a text", "\x01\x02abc"},
		{"a text behind a text", "\x01\x01a\x01\x01b"},
	} {
		isNoFill(t, c.what, c.ahead+zeros(256-len(c.ahead)))
	}
	isNoFill(t, "a last byte", zeros(255)+"\x01")
	opensAs(t, "bytes 0", zeros(256), "")
}

// P5.1: each byte behind the text is 0: any other there, and it is no Fill.
func TestOpenAsksAllBytesBehind(t *testing.T) {
	for _, n := range []int{0, 1, 2, 100, 252, 253, 254} {
		full, _ := sector.Fill(text(n))
		for i := len(octet.Text(text(n))); i < 256; i++ {
			for _, c := range []string{"\x01", "\x80", "\xff"} {
				isNoFill(t, "a byte behind", full[:i]+c+full[i+1:])
			}
		}
	}
}

// P5.1, P1: whatever the bytes are: Open tells just the text whose Fill they are.
func checkText(t *testing.T, s string) {
	if len(s) <= 254 {
		isFilled(t, s)
	} else {
		isTooLong(t, s)
	}
	for _, x := range []string{s, s + zeros(max(256-len(s), 0))} {
		got, ok := sector.Open(x)
		full, err := sector.Fill(got)
		if ok != (err == api.OK && full == x) {
			t.Errorf("Open of % x: % x, %v", x, got, ok)
		}
		if !ok && got != "" {
			t.Errorf("Open of % x, which is no Fill: % x", x, got)
		}
	}
}

func FuzzTexts(f *testing.F) {
	for _, n := range []int{0, 1, 253, 254, 255, 256} {
		f.Add(text(n))
		f.Add(octet.Text(text(n)))
	}
	f.Fuzz(checkText)
}
