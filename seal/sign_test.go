package seal_test

import (
	"testing"

	"scrinium/api"
	"scrinium/mac"
	"scrinium/seal"
)

// P16.2: the chapter's example.
func TestExampleOfHeadRight(t *testing.T) {
	h := seal.Head("key", 3, leafOf("x"), 9)
	isTrue(t, "HeadRight", seal.HeadRight("key", h), true)
	h.Clock = 10
	isTrue(t, "HeadRight with another Clock", seal.HeadRight("key", h), false)
}

// P16.2: what is signed is what was given, with the sum by the key of what it says.
func TestHead(t *testing.T) {
	for i, h := range heads() {
		key := keys()[i%len(keys())]
		got := seal.Head(key, h.Size, h.Root, h.Clock)
		is(t, "Head", got, api.Head{Size: h.Size, Root: h.Root, Clock: h.Clock, Mac: macOf(key, headSays(h))})
		is(t, "Head's Mac", got.Mac, mac.Of(key, headSays(h)))
		isTrue(t, "HeadRight", seal.HeadRight(key, got), true)
	}
}

// P16.2
func TestStone(t *testing.T) {
	for i, z := range stones() {
		key := keys()[i%len(keys())]
		got := seal.Stone(key, z.Freeze, z.At)
		is(t, "Stone", got, api.Stone{Freeze: z.Freeze, At: z.At, Mac: macOf(key, stoneSays(z))})
		is(t, "Stone's Mac", got.Mac, mac.Of(key, stoneSays(z)))
		isTrue(t, "StoneRight", seal.StoneRight(key, got), true)
	}
}

// P16.2: the sum of a head and of a stone, byte by byte.
func TestMacOfSome(t *testing.T) {
	says := "H\x01\x03\x01\x20" + string(make([]byte, 32)) + "\x01\x09"
	is(t, "Head's Mac", seal.Head("key", 3, api.Sum{}, 9).Mac, macOf("key", says))
	says = "T\x01\x27F\x01\x01\x01\x02\x01\x20" + string(make([]byte, 32)) + "\x01\x32"
	is(t, "Stone's Mac", seal.Stone("key", api.Freeze{Window: 1, Count: 2}, 50).Mac, macOf("key", says))
}

// P16.2: one that may not be has a Mac of bytes 0, and is right by no key, whatever its Mac.
func TestSignedNone(t *testing.T) {
	for _, h := range noHeads() {
		for _, key := range keys() {
			got := seal.Head(key, h.Size, h.Root, h.Clock)
			is(t, "Head", got, api.Head{Size: h.Size, Root: h.Root, Clock: h.Clock})
			for _, m := range []api.Sum{{}, macOf(key, ""), macOf(key, headSays(h)), h.Mac} {
				h.Mac = m
				isTrue(t, "HeadRight of none", seal.HeadRight(key, h), false)
			}
		}
	}
	for _, z := range noStones() {
		for _, key := range keys() {
			got := seal.Stone(key, z.Freeze, z.At)
			is(t, "Stone", got, api.Stone{Freeze: z.Freeze, At: z.At})
			for _, m := range []api.Sum{{}, macOf(key, ""), macOf(key, stoneSays(z)), z.Mac} {
				z.Mac = m
				isTrue(t, "StoneRight of none", seal.StoneRight(key, z), false)
			}
		}
	}
}

// P16.2: right by its own key alone.
func TestRightByOneKey(t *testing.T) {
	for _, key := range keys() {
		h := seal.Head(key, 3, leafOf("x"), 9)
		z := seal.Stone(key, api.Freeze{Window: 1, Count: 2, Root: leafOf("x")}, 9)
		for _, other := range keys() {
			isTrue(t, "HeadRight", seal.HeadRight(other, h), other == key)
			isTrue(t, "StoneRight", seal.StoneRight(other, z), other == key)
		}
	}
}

// P16.2: with any one part of it another one, it is right no more.
func TestRightWithAnotherPart(t *testing.T) {
	h := seal.Head("key", 3, leafOf("x"), 9)
	wrong := []api.Head{{}, {Mac: h.Mac}}
	turned := func(s api.Sum, i int) api.Sum { s[i/8] ^= 1 << (i % 8); return s }
	for _, n := range []int{0, 1, 2, 4, 8, 10, 256, mostSize, -1, 1<<56 + 3, mostTime} {
		wrong = append(wrong, api.Head{Size: n, Root: h.Root, Clock: 9, Mac: h.Mac}, api.Head{Size: 3, Root: h.Root, Clock: n, Mac: h.Mac})
	}
	wrong = append(wrong, api.Head{Size: 9, Root: h.Root, Clock: 3, Mac: h.Mac}, api.Head{Size: 3, Root: h.Mac, Clock: 9, Mac: h.Root}, api.Head{Size: 3, Root: h.Root, Clock: 9})
	for i := range 256 {
		wrong = append(wrong, api.Head{Size: 3, Root: turned(h.Root, i), Clock: 9, Mac: h.Mac}, api.Head{Size: 3, Root: h.Root, Clock: 9, Mac: turned(h.Mac, i)})
	}
	for _, w := range wrong {
		isTrue(t, "HeadRight", seal.HeadRight("key", w), false)
	}
	isTrue(t, "HeadRight", seal.HeadRight("key", h), true)
}

// P16.2
func TestStoneRightWithAnotherPart(t *testing.T) {
	f := api.Freeze{Window: 1, Count: 2, Root: leafOf("x")}
	z := seal.Stone("key", f, 9)
	turned := func(s api.Sum, i int) api.Sum { s[i/8] ^= 1 << (i % 8); return s }
	wrong := []api.Stone{{}, {Freeze: f, At: 9}, {Mac: z.Mac}, {Freeze: f, Mac: z.Mac}}
	for _, n := range []int{0, 3, 4, 8, 10, 256, mostCount, mostTime, -1} {
		g, k := f, f
		g.Window, k.Count = n, n
		wrong = append(wrong, api.Stone{Freeze: g, At: 9, Mac: z.Mac}, api.Stone{Freeze: k, At: 9, Mac: z.Mac}, api.Stone{Freeze: f, At: n, Mac: z.Mac})
	}
	for i := range 256 {
		g := f
		g.Root = turned(f.Root, i)
		wrong = append(wrong, api.Stone{Freeze: g, At: 9, Mac: z.Mac}, api.Stone{Freeze: f, At: 9, Mac: turned(z.Mac, i)})
	}
	for _, w := range wrong {
		isTrue(t, "StoneRight", seal.StoneRight("key", w), false)
	}
	isTrue(t, "StoneRight", seal.StoneRight("key", z), true)
}

// P16.3: a head never says what a stone says: no sum of the one is the other's, and neither is a freeze's bytes' sum.
func TestHeadsAreNoStones(t *testing.T) {
	macs := map[api.Sum]string{}
	isApart := func(m api.Sum, who string) {
		t.Helper()
		if had, ok := macs[m]; ok && had != who {
			t.Errorf("one Mac of %s and %s", had, who)
		}
		macs[m] = who
	}
	for _, h := range heads() {
		isApart(seal.Head("key", h.Size, h.Root, h.Clock).Mac, headSays(h))
	}
	for _, z := range stones() {
		isApart(seal.Stone("key", z.Freeze, z.At).Mac, stoneSays(z))
		isApart(macOf("key", freezeBytes(z.Freeze)), freezeBytes(z.Freeze))
	}
}

// P16.2, P16.3: what was signed is right still, once it was written and read.
func TestRightBehindReading(t *testing.T) {
	for _, key := range keys() {
		h, err := seal.ReadHead(ofHead(t, seal.Head(key, 7, leafOf("y"), 300)))
		isErr(t, "ReadHead", err, api.OK)
		isTrue(t, "HeadRight", seal.HeadRight(key, h), true)
		z, err := seal.ReadStone(ofStone(t, seal.Stone(key, api.Freeze{Window: 3, Count: 9, Root: leafOf("y")}, 300)))
		isErr(t, "ReadStone", err, api.OK)
		isTrue(t, "StoneRight", seal.StoneRight(key, z), true)
	}
}

// P16.2: by chance; R4: asked again, the same is told.
func TestSignedByChance(t *testing.T) {
	draw := newPicker()
	for range 3000 {
		h, z, key := draw.head(), draw.stone(), keys()[draw.IntN(len(keys()))]
		isHead(t, key, h)
		isStone(t, key, z)
		isHead(t, key, h)
		isStone(t, key, z)
	}
}

// isHead and isStone fail if one with these parts is not signed, or is not right, as the chapter says.
func isHead(t *testing.T, key string, h api.Head) {
	t.Helper()
	isTrue(t, "HeadRight by another Mac", seal.HeadRight(key, h), headMay(h) && h.Mac == macOf(key, headSays(h)))
	h.Mac = api.Sum{}
	if headMay(h) {
		h.Mac = macOf(key, headSays(h))
	}
	is(t, "Head", seal.Head(key, h.Size, h.Root, h.Clock), h)
	isTrue(t, "HeadRight", seal.HeadRight(key, h), headMay(h))
}

func isStone(t *testing.T, key string, z api.Stone) {
	t.Helper()
	isTrue(t, "StoneRight by another Mac", seal.StoneRight(key, z), stoneMay(z) && z.Mac == macOf(key, stoneSays(z)))
	z.Mac = api.Sum{}
	if stoneMay(z) {
		z.Mac = macOf(key, stoneSays(z))
	}
	is(t, "Stone", seal.Stone(key, z.Freeze, z.At), z)
	isTrue(t, "StoneRight", seal.StoneRight(key, z), stoneMay(z))
}

// P16.2, P1: whatever the key and the parts are.
func FuzzSigned(f *testing.F) {
	f.Add("key", 3, 9, 50, "root", "mac")
	f.Add("", mostTime, mostCount, mostSize, "", "")
	f.Add("\x00", -1, 0, mostTime+1, "x", "y")
	f.Fuzz(func(t *testing.T, key string, a, b, c int, root, m string) {
		var x, y api.Sum
		copy(x[:], root)
		copy(y[:], m)
		isHead(t, key, api.Head{Size: a, Root: x, Clock: b, Mac: y})
		isStone(t, key, api.Stone{Freeze: api.Freeze{Window: a, Count: b, Root: x}, At: c, Mac: y})
	})
}
