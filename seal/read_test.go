package seal_test

import (
	"math"
	"strings"
	"testing"

	"scrinium/api"
	"scrinium/seal"
)

// some are the bytes of one of each kind and of others at the edges.
func some() []string {
	root, m := leafOf("root"), leafOf("mac")
	f := api.Freeze{Window: mostTime, Count: mostCount, Root: root}
	return []string{
		freezeBytes(api.Freeze{Count: 1}), freezeBytes(api.Freeze{Window: 1, Count: 2, Root: root}), freezeBytes(f),
		headBytes(api.Head{}), headBytes(api.Head{Size: 3, Root: root, Clock: 300, Mac: m}), headBytes(api.Head{Size: mostSize, Root: root, Clock: mostTime, Mac: m}),
		stoneBytes(api.Stone{Freeze: api.Freeze{Count: 1}}), stoneBytes(api.Stone{Freeze: api.Freeze{Window: 1, Count: 2, Root: root}, At: 9, Mac: m}), stoneBytes(api.Stone{Freeze: f, At: mostTime, Mac: m}),
	}
}

// P16.1: bytes that are missing, that are too many, or that stand ahead.
func TestReadOfOtherForms(t *testing.T) {
	for _, s := range some() {
		areRead(t, s)
		for i := range s {
			areNone(t, "cut off", s[:i])
			areRead(t, s[:i]+s[i+1:])
			areRead(t, s[:i]+s[i+1:]+"\x09")
			if i > 0 {
				areNone(t, "cut off ahead", s[i:])
			}
		}
		for _, more := range []string{"\x00", "x", "\x00\x00", "F", s} {
			areNone(t, "more behind", s+more)
			areNone(t, "more ahead", more+s)
		}
	}
	areNone(t, "nothing", "")
	for x := range 256 {
		areNone(t, "a byte", string([]byte{byte(x)}))
	}
}

// P16.1: another mark is another thing's, or none's.
func TestReadOfOtherMarks(t *testing.T) {
	for _, s := range some() {
		for x := range 256 {
			areRead(t, string([]byte{byte(x)})+s[1:])
		}
	}
	for _, f := range freezes() {
		areNone(t, "a freeze with a head's mark", "H"+freezeBytes(f)[1:])
		areNone(t, "a freeze with a small mark", "f"+freezeBytes(f)[1:])
	}
	areNone(t, "a head with a stone's mark", "T"+headBytes(api.Head{})[1:])
	areNone(t, "a stone with a head's mark", "H"+stoneBytes(api.Stone{Freeze: api.Freeze{Count: 1}})[1:])
}

// P16.1: what is said, without a Mac, is nobody's bytes.
func TestReadOfWhatIsSaid(t *testing.T) {
	areNone(t, "a head without its Mac", headSays(api.Head{Size: 1}))
	areNone(t, "a stone without its Mac", stoneSays(api.Stone{Freeze: api.Freeze{Count: 1}}))
	areNone(t, "a freeze with a Mac", freezeBytes(api.Freeze{Count: 1})+hash(leafOf("x")))
}

// P16.1: each byte turned into others: what is left one's bytes is read as that one.
func TestReadOfTurnedBytes(t *testing.T) {
	for _, s := range some() {
		for at := range s {
			for turn := range 256 {
				b := []byte(s)
				b[at] ^= byte(turn)
				areRead(t, string(b))
			}
		}
	}
}

// P16.1: hashes of other lengths, with a text's length in its own and in other forms.
func TestReadOfOtherHashes(t *testing.T) {
	for n := range 70 {
		x := text(strings.Repeat("a", n))
		if n == 32 {
			x = "\x02\x00\x20" + strings.Repeat("a", 32)
		}
		areNone(t, "a freeze's root", "F\x00\x01\x01"+x)
		areNone(t, "a head's root", "H\x00"+x+"\x00"+hash(api.Sum{}))
		areNone(t, "a head's Mac", "H\x00"+hash(api.Sum{})+"\x00"+x)
		areNone(t, "a stone's root", "T"+text("F\x00\x01\x01"+x)+"\x00"+hash(api.Sum{}))
		areNone(t, "a stone's Mac", "T"+text(freezeBytes(api.Freeze{Count: 1}))+"\x00"+x)
	}
	areNone(t, "a root that is no text", "F\x00\x01\x01"+strings.Repeat("a", 32))
}

// P16.1: a stone's freeze is a freeze's bytes, with nothing behind it, and in one form.
func TestReadOfOtherFreezesInStones(t *testing.T) {
	in := func(s string) string { return "T" + text(s) + "\x00" + hash(api.Sum{}) }
	f := freezeBytes(api.Freeze{Window: 1, Count: 2})
	areRead(t, in(f))
	for i := range f {
		areNone(t, "a freeze cut off", in(f[:i]))
	}
	for _, s := range some()[3:] {
		areNone(t, "no freeze", in(s))
	}
	areNone(t, "more behind a freeze", in(f+"\x00"))
	areNone(t, "two freezes", in(f+f))
	areNone(t, "a freeze that is no text", "T"+f+"\x00"+hash(api.Sum{}))
	areNone(t, "a long text", in(f+strings.Repeat("\x00", 70000)))
	for _, g := range noFreezes() {
		areNone(t, "a freeze that may not be", in(freezeBytes(g)))
	}
}

// P16.1: numbers above the limits, and those that are no int, and other forms of such as may be.
func TestReadOfOtherNumbers(t *testing.T) {
	put := func(n uint64) string {
		if n > math.MaxInt {
			return "\x08" + string([]byte{byte(n >> 56), byte(n >> 48), byte(n >> 40), byte(n >> 32), byte(n >> 24), byte(n >> 16), byte(n >> 8), byte(n)})
		}
		return number(int(n))
	}
	h := hash(leafOf("x"))
	for _, n := range []uint64{mostTime + 1, 1 << 51, 1<<63 - 1, 1 << 63, 1<<63 + 1, math.MaxUint64} {
		areNone(t, "a window", "F"+put(n)+"\x01\x01"+h)
		areNone(t, "a count", "F\x00"+put(n)+h)
		areNone(t, "a size", "H"+put(n)+h+"\x00"+h)
		areNone(t, "a clock", "H\x00"+h+put(n)+h)
		areNone(t, "an At", "T"+text("F\x00\x01\x01"+h)+put(n)+h)
		areNone(t, "a long freeze", "T"+put(n)+"F\x00\x01\x01"+h+"\x00"+h)
	}
	areNone(t, "no count", "F\x00\x00"+h)
	areNone(t, "a count", "F\x00\x02\x0f\xa1"+h)
	areNone(t, "a size", "H\x06\x01\x00\x00\x00\x00\x01"+h+"\x00"+h)
	for _, zero := range []string{"\x01\x00", "\x02\x00\x00", "\x09", "\x09\x00\x00\x00\x00\x00\x00\x00\x00\x00"} {
		areNone(t, "a window", "F"+zero+"\x01\x01"+h)
		areNone(t, "a size", "H"+zero+h+"\x00"+h)
		areNone(t, "a clock", "H\x00"+h+zero+h)
		areNone(t, "an At", "T"+text("F\x00\x01\x01"+h)+zero+h)
	}
	areNone(t, "a count in another form", "F\x00\x02\x00\x01"+h)
}

// P16.1, P1: texts that say that they are longer than all that there is.
func TestReadOfGreatClaims(t *testing.T) {
	for _, claim := range []int{1, 31, 32, 33, 1 << 16, api.MaxText, api.MaxText + 1, math.MaxInt} {
		for _, a := range []string{"F\x00\x01\x01", "H\x00", "H\x00" + hash(api.Sum{}) + "\x00", "T", "T" + text(freezeBytes(api.Freeze{Count: 1})) + "\x00"} {
			areNone(t, "so many bytes", a+number(claim))
			areNone(t, "so many bytes", a+number(claim)+"F")
		}
	}
}

// P16.1: bytes behind the longest text.
func TestReadOfLongBytes(t *testing.T) {
	long := strings.Repeat("\x00", api.MaxText)
	for _, s := range some() {
		areNone(t, "many behind", s+long)
	}
	areNone(t, "a long freeze", "T"+text(long)+"\x00"+hash(api.Sum{}))
	areNone(t, "a longer freeze", "T"+text(long+"\x00")+"\x00"+hash(api.Sum{}))
}

// P16.3: what is none's is not taken for another one, whatever is cut out, put in or turned.
func TestReadByChance(t *testing.T) {
	draw := newPicker()
	for range 30000 {
		s := some()[draw.IntN(len(some()))]
		for range 1 + draw.IntN(3) {
			at, n := draw.IntN(len(s)), draw.IntN(3)
			more := string([]byte{byte(draw.IntN(3)), byte(draw.IntN(40))}[:draw.IntN(3)])
			s = s[:at] + more + s[min(at+n, len(s)):] + "\x00"[draw.IntN(2):]
		}
		areRead(t, s)
	}
}

// R4: asked again, the same is told.
func TestReadAgain(t *testing.T) {
	for _, s := range some() {
		f, _ := seal.ReadFreeze(s)
		h, _ := seal.ReadHead(s)
		z, _ := seal.ReadStone(s)
		g, _ := seal.ReadFreeze(s)
		k, _ := seal.ReadHead(s)
		y, _ := seal.ReadStone(s)
		is(t, "ReadFreeze, again", g, f)
		is(t, "ReadHead, again", k, h)
		is(t, "ReadStone, again", y, z)
	}
}

// P16.1, P16.3, P1: whatever the bytes are.
func FuzzRead(f *testing.F) {
	for _, s := range some() {
		f.Add(s)
	}
	f.Fuzz(func(t *testing.T, s string) {
		areRead(t, s)
		if v, err := seal.ReadFreeze(s); err == api.OK {
			isBytes(t, "FreezeBytes of ReadFreeze", ofFreeze(t, v), s)
		}
		if v, err := seal.ReadHead(s); err == api.OK {
			isBytes(t, "HeadBytes of ReadHead", ofHead(t, v), s)
		}
		if v, err := seal.ReadStone(s); err == api.OK {
			isBytes(t, "StoneBytes of ReadStone", ofStone(t, v), s)
		}
	})
}
