package seal_test

import (
	"strings"
	"testing"

	"scrinium/api"
	"scrinium/leaf"
	"scrinium/octet"
	"scrinium/seal"
	"scrinium/sha"
)

// zeros are so many bytes 0, as hexadecimal digits.
func zeros(n int) string { return strings.Repeat("00", n) }

// ofFreeze, ofHead and ofStone are the bytes of one that may be.
func ofFreeze(t *testing.T, f api.Freeze) string {
	t.Helper()
	s, err := seal.FreezeBytes(f)
	isErr(t, "FreezeBytes", err, api.OK)
	return s
}

func ofHead(t *testing.T, h api.Head) string {
	t.Helper()
	s, err := seal.HeadBytes(h)
	isErr(t, "HeadBytes", err, api.OK)
	return s
}

func ofStone(t *testing.T, z api.Stone) string {
	t.Helper()
	s, err := seal.StoneBytes(z)
	isErr(t, "StoneBytes", err, api.OK)
	return s
}

// P16.1: the chapter's example.
func TestExampleOfBytes(t *testing.T) {
	isBytes(t, "FreezeBytes", ofFreeze(t, api.Freeze{Window: 1, Count: 2}), fromHex(t, "46 01 01 01 02 01 20"+zeros(32)))
}

// P16.1: some, byte by byte.
func TestBytesOfSome(t *testing.T) {
	x := strings.Repeat("ab", 31) + "cd"
	root := api.Sum([]byte(fromHex(t, x)))
	for f, want := range map[api.Freeze]string{
		{Count: 1}:                                  "46 00 01 01 01 20" + zeros(32),
		{Window: 256, Count: 4000, Root: root}:      "46 02 01 00 02 0f a0 01 20" + x,
		{Window: 1 << 50, Count: 255}:               "46 07 04 00 00 00 00 00 00 01 ff 01 20" + zeros(32),
		{Window: 1<<50 - 1, Count: 256, Root: root}: "46 07 03 ff ff ff ff ff ff 02 01 00 01 20" + x,
	} {
		isBytes(t, "FreezeBytes", ofFreeze(t, f), fromHex(t, want))
	}
	for h, want := range map[api.Head]string{
		{}:                          "48 00 01 20" + zeros(32) + "00 01 20" + zeros(32),
		{Size: 1, Clock: 2}:         "48 01 01 01 20" + zeros(32) + "01 02 01 20" + zeros(32),
		{Size: 3, Root: root}:       "48 01 03 01 20" + x + "00 01 20" + zeros(32),
		{Clock: 65536, Mac: root}:   "48 00 01 20" + zeros(32) + "03 01 00 00 01 20" + x,
		{Size: 1 << 40, Clock: 255}: "48 06 01 00 00 00 00 00 01 20" + zeros(32) + "01 ff 01 20" + zeros(32),
		{Clock: 1 << 50}:            "48 00 01 20" + zeros(32) + "07 04 00 00 00 00 00 00 01 20" + zeros(32),
	} {
		isBytes(t, "HeadBytes", ofHead(t, h), fromHex(t, want))
	}
	for z, want := range map[api.Stone]string{
		{Freeze: api.Freeze{Count: 1}}:                                           "54 01 26 46 00 01 01 01 20" + zeros(32) + "00 01 20" + zeros(32),
		{Freeze: api.Freeze{Window: 1, Count: 2, Root: root}, At: 50, Mac: root}: "54 01 27 46 01 01 01 02 01 20" + x + "01 32 01 20" + x,
		{Freeze: api.Freeze{Window: 1 << 50, Count: 4000}, At: 1 << 50}:          "54 01 2e 46 07 04 00 00 00 00 00 00 02 0f a0 01 20" + zeros(32) + "07 04 00 00 00 00 00 00 01 20" + zeros(32),
	} {
		isBytes(t, "StoneBytes", ofStone(t, z), fromHex(t, want))
	}
}

// P16.1, P16.3: at all edges they are what chapter 1 makes, and are read again.
func TestFreezesAtTheEdges(t *testing.T) {
	for _, f := range freezes() {
		s := ofFreeze(t, f)
		isBytes(t, "FreezeBytes", s, freezeBytes(f))
		isBytes(t, "FreezeBytes", s, "F"+octet.Put(uint64(f.Window))+octet.Put(uint64(f.Count))+octet.Text(sha.Bytes(f.Root)))
		g, err := seal.ReadFreeze(s)
		isErr(t, "ReadFreeze", err, api.OK)
		is(t, "ReadFreeze", g, f)
		areRead(t, s)
	}
}

// P16.1, P16.3
func TestHeadsAtTheEdges(t *testing.T) {
	for _, h := range heads() {
		s := ofHead(t, h)
		isBytes(t, "HeadBytes", s, headBytes(h))
		isBytes(t, "HeadBytes", s, "H"+octet.Put(uint64(h.Size))+octet.Text(sha.Bytes(h.Root))+octet.Put(uint64(h.Clock))+octet.Text(sha.Bytes(h.Mac)))
		g, err := seal.ReadHead(s)
		isErr(t, "ReadHead", err, api.OK)
		is(t, "ReadHead", g, h)
		areRead(t, s)
	}
}

// P16.1, P16.3
func TestStonesAtTheEdges(t *testing.T) {
	for _, z := range stones() {
		s := ofStone(t, z)
		isBytes(t, "StoneBytes", s, stoneBytes(z))
		isBytes(t, "StoneBytes", s, "T"+octet.Text(ofFreeze(t, z.Freeze))+octet.Put(uint64(z.At))+octet.Text(sha.Bytes(z.Mac)))
		g, err := seal.ReadStone(s)
		isErr(t, "ReadStone", err, api.OK)
		is(t, "ReadStone", g, z)
		areRead(t, s)
	}
}

// P16.1: whoever signed them, their Mac is written and read as it is.
func TestBytesAskNothingOfMacs(t *testing.T) {
	h := seal.Head("key", 3, leafOf("a"), 9)
	z := seal.Stone("key", api.Freeze{Window: 1, Count: 2}, 9)
	for _, m := range append(hashes(), h.Mac, z.Mac) {
		h.Mac, z.Mac = m, m
		g, err := seal.ReadHead(ofHead(t, h))
		isErr(t, "ReadHead", err, api.OK)
		is(t, "ReadHead", g, h)
		y, err := seal.ReadStone(ofStone(t, z))
		isErr(t, "ReadStone", err, api.OK)
		is(t, "ReadStone", y, z)
	}
}

// P16.1: of those that may not be ErrArg is told, and no bytes; what would be theirs is none's.
func TestBytesOfNone(t *testing.T) {
	for _, f := range noFreezes() {
		s, err := seal.FreezeBytes(f)
		isErr(t, "FreezeBytes", err, api.ErrArg)
		isBytes(t, "FreezeBytes of none", s, "")
		areNone(t, "no freeze", freezeBytes(f))
	}
	for _, h := range noHeads() {
		s, err := seal.HeadBytes(h)
		isErr(t, "HeadBytes", err, api.ErrArg)
		isBytes(t, "HeadBytes of none", s, "")
		areNone(t, "no head", headBytes(h))
	}
	for _, z := range noStones() {
		s, err := seal.StoneBytes(z)
		isErr(t, "StoneBytes", err, api.ErrArg)
		isBytes(t, "StoneBytes of none", s, "")
		areNone(t, "no stone", stoneBytes(z))
	}
}

// P16.1: just beside each edge, one by one.
func TestBesideTheEdges(t *testing.T) {
	for f, want := range map[api.Freeze]api.Errno{
		{Window: 0, Count: 1}:          api.OK,
		{Window: 0, Count: 0}:          api.ErrArg,
		{Window: 0, Count: -1}:         api.ErrArg,
		{Window: 0, Count: 4000}:       api.OK,
		{Window: 0, Count: 4001}:       api.ErrArg,
		{Window: -1, Count: 1}:         api.ErrArg,
		{Window: 1 << 50, Count: 1}:    api.OK,
		{Window: 1<<50 + 1, Count: 1}:  api.ErrArg,
		{Window: 1 << 50, Count: 4000}: api.OK,
	} {
		_, err := seal.FreezeBytes(f)
		isErr(t, "FreezeBytes", err, want)
		_, err = seal.StoneBytes(api.Stone{Freeze: f})
		isErr(t, "StoneBytes", err, want)
	}
	for h, want := range map[api.Head]api.Errno{
		{}:                              api.OK,
		{Size: -1}:                      api.ErrArg,
		{Size: 1 << 40}:                 api.OK,
		{Size: 1<<40 + 1}:               api.ErrArg,
		{Clock: -1}:                     api.ErrArg,
		{Clock: 1 << 50}:                api.OK,
		{Clock: 1<<50 + 1}:              api.ErrArg,
		{Size: 1 << 40, Clock: 1 << 50}: api.OK,
	} {
		_, err := seal.HeadBytes(h)
		isErr(t, "HeadBytes", err, want)
	}
	for at, want := range map[int]api.Errno{-1: api.ErrArg, 0: api.OK, 1 << 50: api.OK, 1<<50 + 1: api.ErrArg} {
		_, err := seal.StoneBytes(api.Stone{Freeze: api.Freeze{Count: 1}, At: at})
		isErr(t, "StoneBytes", err, want)
	}
	for n := range 4000 {
		_, err := seal.FreezeBytes(api.Freeze{Count: n + 1})
		isErr(t, "FreezeBytes of a count", err, api.OK)
	}
}

// P16.1: a stone's freeze need not be over by its At: how wide windows are isn't told.
func TestStonesAskNothingOfWindows(t *testing.T) {
	ofStone(t, api.Stone{Freeze: api.Freeze{Window: mostTime, Count: 1}, At: 0})
	ofStone(t, api.Stone{Freeze: api.Freeze{Window: 0, Count: 1}, At: mostTime})
}

// P16.1, P16.3: by chance.
func TestBytesByChance(t *testing.T) {
	draw := newPicker()
	same := func(what, s string, err api.Errno, may bool, want string) {
		t.Helper()
		wanted := api.OK
		if !may {
			want, wanted = "", api.ErrArg
		}
		isErr(t, what, err, wanted)
		isBytes(t, what, s, want)
	}
	for range 10000 {
		f, h, z := draw.freeze(), draw.head(), draw.stone()
		s, err := seal.FreezeBytes(f)
		same("FreezeBytes", s, err, freezeMay(f), freezeBytes(f))
		s, err = seal.HeadBytes(h)
		same("HeadBytes", s, err, headMay(h), headBytes(h))
		s, err = seal.StoneBytes(z)
		same("StoneBytes", s, err, stoneMay(z), stoneBytes(z))
		areRead(t, freezeBytes(f))
		areRead(t, headBytes(h))
		areRead(t, stoneBytes(z))
	}
}

// P16.1: a freeze's leaf is that of its bytes.
func TestFreezeLeaf(t *testing.T) {
	is(t, "FreezeLeaf", seal.FreezeLeaf(api.Freeze{Window: 1, Count: 2}), leafOf(fromHex(t, "46 01 01 01 02 01 20"+zeros(32))))
	had := map[api.Sum]api.Freeze{}
	for _, f := range freezes() {
		x := seal.FreezeLeaf(f)
		is(t, "FreezeLeaf", x, leafOf(freezeBytes(f)))
		is(t, "FreezeLeaf", x, leaf.Leaf(ofFreeze(t, f)))
		if g, ok := had[x]; ok && g != f {
			t.Errorf("FreezeLeaf: the same of %v and %v", g, f)
		}
		had[x] = f
	}
}

// P16.1: of one that may not be it is the leaf of nothing.
func TestFreezeLeafOfNone(t *testing.T) {
	for _, f := range noFreezes() {
		is(t, "FreezeLeaf", seal.FreezeLeaf(f), leafOf(""))
	}
}

// P16.3: no two that may be have the same bytes, also two of unlike kinds.
func TestNoTwoHaveTheSameBytes(t *testing.T) {
	had := map[string]any{}
	isApart := func(s string, v any) {
		t.Helper()
		if w, ok := had[s]; ok && w != v {
			t.Errorf("the same bytes of %v and %v", w, v)
		}
		had[s] = v
	}
	for _, f := range freezes() {
		isApart(ofFreeze(t, f), f)
	}
	for _, h := range heads() {
		isApart(ofHead(t, h), h)
	}
	for _, z := range stones() {
		isApart(ofStone(t, z), z)
	}
	for a := range 9 {
		for b := range 9 {
			for _, x := range hashes() {
				for _, y := range hashes() {
					isApart(ofHead(t, api.Head{Size: a, Root: x, Clock: b, Mac: y}), api.Head{Size: a, Root: x, Clock: b, Mac: y})
					z := api.Stone{Freeze: api.Freeze{Window: a, Count: b + 1, Root: x}, At: a * b, Mac: y}
					isApart(ofStone(t, z), z)
					isApart(ofFreeze(t, z.Freeze), z.Freeze)
				}
			}
		}
	}
}

// R4: asked again, the same is told.
func TestBytesAgain(t *testing.T) {
	for _, h := range heads() {
		isBytes(t, "HeadBytes, again", ofHead(t, h), ofHead(t, h))
	}
	for _, z := range stones() {
		isBytes(t, "StoneBytes, again", ofStone(t, z), ofStone(t, z))
		is(t, "FreezeLeaf, again", seal.FreezeLeaf(z.Freeze), seal.FreezeLeaf(z.Freeze))
	}
}

// P16.1, P16.3, P1: whatever they have.
func FuzzBytes(f *testing.F) {
	f.Add(1, 2, 3, "root", "mac")
	f.Add(mostTime, mostCount, mostTime, "", strings.Repeat("\xff", 32))
	f.Add(mostSize, 0, -1, "\x01\x20", "H")
	f.Fuzz(func(t *testing.T, a, b, c int, root, mac string) {
		freeze := api.Freeze{Window: a, Count: b}
		copy(freeze.Root[:], root)
		head := api.Head{Size: b, Root: freeze.Root, Clock: c}
		copy(head.Mac[:], mac)
		stone := api.Stone{Freeze: freeze, At: c, Mac: head.Mac}
		s, err := seal.FreezeBytes(freeze)
		isTrue(t, "FreezeBytes", s == freezeBytes(freeze) && err == api.OK, freezeMay(freeze))
		s, err = seal.HeadBytes(head)
		isTrue(t, "HeadBytes", s == headBytes(head) && err == api.OK, headMay(head))
		s, err = seal.StoneBytes(stone)
		isTrue(t, "StoneBytes", s == stoneBytes(stone) && err == api.OK, stoneMay(stone))
		areRead(t, freezeBytes(freeze))
		areRead(t, headBytes(head))
		areRead(t, stoneBytes(stone))
	})
}
