package front_test

import (
	"math/bits"
	"slices"
	"strconv"
	"strings"
	"testing"

	"scrinium/api"
	"scrinium/front"
	"scrinium/octet"
)

// isNone fails if s is read as a front.
func isNone(t *testing.T, what, s string) {
	t.Helper()
	if f, err := front.Read(s); f != nil || err != api.ErrForm {
		t.Errorf("%s: Read of % x: %v, %d, want nil, ErrForm", what, s, f, err)
	}
}

// isFrontBytes tells by hand whether s are a front's bytes.
func isFrontBytes(s string) bool {
	n, s, ok := cutNumber(s)
	if !ok || n > most {
		return false
	}
	parts, s, ok := cutNumber(s)
	if !ok || parts != uint64(bits.OnesCount64(n)) || uint64(len(s)) != 34*parts {
		return false
	}
	for p := range slices.Chunk([]byte(s), 34) {
		if p[0] != 1 || p[1] != 32 {
			return false
		}
	}
	return true
}

// cutNumber is the number that s begins with, in its one form, and what stands behind it.
func cutNumber(s string) (n uint64, rest string, ok bool) {
	if s == "" || s[0] > 8 || len(s) <= int(s[0]) {
		return 0, "", false
	}
	digits := s[1 : 1+s[0]]
	for _, c := range []byte(digits) {
		n = n<<8 | uint64(c)
	}
	return n, s[1+len(digits):], !strings.HasPrefix(digits, "\x00")
}

// isJudged fails if s is not read as the front whose bytes it is, or not refused, if it is none's.
func isJudged(t *testing.T, s string) {
	t.Helper()
	if !isFrontBytes(s) {
		isNone(t, "no front's bytes", s)
		return
	}
	isBytes(t, "Bytes of Read", read(t, "a front's bytes", s).Bytes(), s)
}

// peak are a peak's bytes in those of a front.
func peak(x api.Sum) string { return "\x01\x20" + string(x[:]) }

// P11.2: the bytes of few, one by one.
func TestBytesOfFew(t *testing.T) {
	l := leaves(3)
	isBytes(t, "none", front.New().Bytes(), "\x00\x00")
	isBytes(t, "one", frontOf(l[:1]).Bytes(), "\x01\x01"+"\x01\x01"+peak(l[0]))
	isBytes(t, "two", frontOf(l[:2]).Bytes(), "\x01\x02"+"\x01\x01"+peak(above(l[0], l[1])))
	isBytes(t, "three", frontOf(l).Bytes(), "\x01\x03"+"\x01\x02"+peak(above(l[0], l[1]))+peak(l[2]))
	isInt(t, "of eleven", len(frontOf(leaves(11)).Bytes()), 106)
}

// P11.2: greater numbers, the greatest, and the most peaks that there may be.
func TestBytesOfMany(t *testing.T) {
	a := peak(right("a"))
	for _, s := range []string{
		"\x01\x80" + "\x01\x01" + a,
		"\x02\x01\x00" + "\x01\x01" + a,
		"\x02\x01\x01" + "\x01\x02" + a + a,
		"\x06\x01\x00\x00\x00\x00\x00" + "\x01\x01" + a,
		"\x05\xff\xff\xff\xff\xff" + "\x01\x28" + strings.Repeat(a, 40),
	} {
		isBytes(t, "many", read(t, "many", s).Bytes(), s)
	}
	isBytes(t, "256", frontOf(leaves(256)).Bytes()[:5], "\x02\x01\x00"+"\x01\x01")
}

// P11.2: they are what octet makes of the number and the peaks.
func TestBytesAreOfChapter1(t *testing.T) {
	f := front.New()
	for _, x := range leaves(300) {
		f.Add(x)
		var parts []string
		for _, p := range f.Peaks() {
			parts = append(parts, string(p[:]))
		}
		isBytes(t, "Bytes", f.Bytes(), octet.Put(uint64(f.Size()))+octet.List(parts...))
	}
}

// P11.2, P11.3: what was written is read, and goes on as it.
func TestReadGoesOn(t *testing.T) {
	all := leaves(90)
	for n := range 70 {
		f := frontOf(all[:n])
		g := read(t, "written", f.Bytes())
		want := treeOf(all[:n])
		isFront(t, "read", g, want)
		for i, x := range all[n : n+20] {
			isInt(t, "Add", f.Add(x), n+i+1)
			isInt(t, "Add to what was read", g.Add(x), n+i+1)
			want.add(x)
			isFront(t, "written", f, want)
			isFront(t, "read", g, want)
			isBytes(t, "read again", read(t, "again", g.Bytes()).Bytes(), f.Bytes())
		}
	}
}

// P11.3: there are as many peaks as the number of leaves has bits that are 1.
func TestAsManyPeaksAsBits(t *testing.T) {
	f := front.New()
	for i, x := range leaves(1100) {
		f.Add(x)
		isInt(t, "Peaks of "+strconv.Itoa(i+1), len(f.Peaks()), strings.Count(strconv.FormatInt(int64(i+1), 2), "1"))
	}
	for _, n := range greatSizes() {
		f := read(t, strconv.Itoa(n), treeOfSize(n).bytes())
		isInt(t, "Peaks of "+strconv.Itoa(n), len(f.Peaks()), strings.Count(strconv.FormatInt(int64(n), 2), "1"))
	}
}

// P11.2, P11.3: peaks may be any 32 bytes.
func TestReadOfAllLooks(t *testing.T) {
	l := looks()
	want := &tree{{8, l[0]}, {4, l[1]}, {1, l[6]}}
	f := read(t, "looks", want.bytes())
	isFront(t, "looks", f, want)
	for i, x := range l {
		isInt(t, "Add", f.Add(x), 14+i)
		want.add(x)
		isFront(t, "looks", f, want)
	}
}

// P11.2: a number above 2^40, with as many peaks as it has bits, with one, and with none.
func TestReadOfTooMany(t *testing.T) {
	for _, n := range []uint64{most + 1, most + 2, most + most/2, 2*most - 1, 2 * most, 1 << 50, 1 << 62, 1<<63 - 1, 1 << 63, 1<<63 + 1, 1<<64 - 2, 1<<64 - 1} {
		for _, peaks := range []int{0, 1, 2, 40, 41, 64, bits.OnesCount64(n)} {
			isNone(t, "above 2^40", octet.Put(n)+number(peaks)+strings.Repeat(peak(right("a")), peaks))
		}
	}
}

// P11.2: any other number of peaks than the number has bits that are 1.
func TestReadOfOtherPeaks(t *testing.T) {
	all := leaves(50)
	for _, n := range append(greatSizes(), 0, 1, 2, 3, 4, 7, 8, 10, 255, 256) {
		for peaks := range all {
			isJudged(t, formed(n, all[:peaks]))
		}
		k := bits.OnesCount64(uint64(n))
		isNone(t, "one peak more", formed(n, all[:k+1]))
		if k > 0 {
			isNone(t, "one peak less", formed(n, all[:k-1]))
		}
	}
}

// P11.2: a peak that has not 32 bytes, wherever it stands, and if another one makes up for it.
func TestReadOfOtherLengths(t *testing.T) {
	for _, long := range []int{0, 1, 31, 33, 34, 64, 255, 256, 8192} {
		for at := range 3 {
			parts := slices.Repeat([]string{strings.Repeat("a", 32)}, 3)
			parts[at] = strings.Repeat("a", long)
			isNone(t, "another length", octet.Put(7)+octet.List(parts...))
			parts[(at+1)%3] = strings.Repeat("a", max(64-long, 0))
			isNone(t, "two other lengths", octet.Put(7)+octet.List(parts...))
		}
	}
	isNone(t, "a longer text than is read", octet.Put(1)+octet.List(strings.Repeat("a", api.MaxText+1)))
}

// P11.2: bytes that are missing, that are too many, that stand ahead, or that put a number in another form.
func TestReadOfOtherForms(t *testing.T) {
	for _, n := range []int{0, 1, 2, 3, 7, 11, 256} {
		s := frontOf(leaves(n)).Bytes()
		for i := range s {
			isNone(t, "cut off", s[:i])
		}
		for _, more := range []string{"\x00", "x", "\x00\x00", peak(right("a")), s} {
			isNone(t, "more behind", s+more)
		}
		isNone(t, "a byte ahead", "\x09"+s)
		isNone(t, "a byte 0 ahead of the number", string([]byte{s[0] + 1, 0})+s[1:])
		rest := s[len(number(n)):]
		isNone(t, "a byte 0 ahead of how many peaks", number(n)+string([]byte{rest[0] + 1, 0})+rest[1:])
	}
	for _, s := range []string{"", "\x00", "\x01\x00\x00", "\x00\x01\x00", "\x00\x01\x01\x00", "\x01\x01\x00", "\xff\xff", "\x08\xff\xff\xff\xff\xff\xff\xff\xff\x00"} {
		isNone(t, "none", s)
	}
	for x := range 256 {
		isNone(t, "a byte", string([]byte{byte(x)}))
	}
}

// P11.2, P1: however many peaks or bytes a number says there are, none is looked for that isn't there.
func TestReadOfGreatClaims(t *testing.T) {
	for _, claim := range []uint64{41, 1 << 16, api.MaxText, 1 << 31, most, 1<<63 - 1, 1 << 63, 1<<64 - 1} {
		isNone(t, "so many peaks", octet.Put(1)+octet.Put(claim)+peak(right("a")))
		isNone(t, "so many peaks", octet.Put(most-1)+octet.Put(claim)+peak(right("a")))
		isNone(t, "so many bytes", octet.Put(1)+octet.Put(1)+octet.Put(claim)+strings.Repeat("a", 32))
	}
}

// P11.2: each byte turned into others: what is left a front's is read as that one.
func TestReadOfTurnedBytes(t *testing.T) {
	for _, n := range []int{0, 1, 3, 256, 257} {
		s := frontOf(leaves(n)).Bytes()
		for at := range s {
			for _, turn := range []byte{1, 2, 0x20, 0x40, 0x80, 0xff, s[at]} {
				b := []byte(s)
				b[at] ^= turn
				isJudged(t, string(b))
			}
		}
	}
}

// P11.2: all short bytes of those that matter.
func TestReadOfShortBytes(t *testing.T) {
	l := []string{""}
	for from := 0; len(l[from]) < 6; from++ {
		isJudged(t, l[from])
		for _, c := range "\x00\x01\x02\x06\x20" {
			l = append(l, l[from]+string(c))
		}
	}
}

// P11.2: no two fronts have the same bytes.
func TestNoTwoHaveTheSameBytes(t *testing.T) {
	seen := map[string]int{}
	f := front.New()
	for i, x := range leaves(700) {
		seen[f.Bytes()] = i
		f.Add(x)
	}
	isInt(t, "unlike bytes", len(seen), 700)
	a, b := right("a"), right("b")
	if frontOf([]api.Sum{a, b, a}).Bytes() == frontOf([]api.Sum{b, a, a}).Bytes() {
		t.Error("Bytes: the same of other leaves")
	}
}

// R3: each front that is read is another one.
func TestReadFrontsAreApart(t *testing.T) {
	s := frontOf(leaves(7)).Bytes()
	f, g := read(t, "one", s), read(t, "another", s)
	f.Add(right("a"))
	isFront(t, "another", g, treeOf(leaves(7)))
	isBytes(t, "read again", read(t, "again", s).Bytes(), s)
}

// P11.2, P1: whatever the bytes are.
func FuzzBytes(f *testing.F) {
	for _, n := range []int{0, 1, 3, 11, 256} {
		f.Add(frontOf(leaves(n)).Bytes())
	}
	f.Add(treeOfSize(most).bytes())
	f.Add(treeOfSize(most - 1).bytes())
	f.Add(formed(most+1, leaves(2)))
	f.Fuzz(isJudged)
}
