package super_test

import (
	"slices"
	"strconv"
	"testing"

	"scrinium/api"
	"scrinium/leaf"
	"scrinium/path"
	"scrinium/proof"
	"scrinium/seal"
	"scrinium/super"
)

// P18.2: all that is told, of all sizes.
func TestTold(t *testing.T) {
	for i, b := range some(t) {
		b.isRight(t, strconv.Itoa(i))
	}
}

// P18.2: of some hundreds, and around a power of two.
func TestToldOfMany(t *testing.T) {
	for _, n := range []int{127, 128, 129, 300} {
		b := long(t, n)
		b.isRight(t, strconv.Itoa(n))
		b.loaded(t, strconv.Itoa(n)).isRight(t, strconv.Itoa(n)+", loaded")
	}
}

// P18.2: by the layers below: roots, leaves, paths, links and heads.
func TestToldByOtherLayers(t *testing.T) {
	for _, b := range some(t) {
		var l []api.Sum
		for _, f := range b.s.All() {
			l = append(l, seal.FreezeLeaf(f))
		}
		is(t, "Root", b.s.Root(), leaf.Root(l))
		for n := 1; n <= len(l); n++ {
			for i := range n {
				p, err := b.s.Path(i, n)
				want, _ := path.Path(l[:n], i)
				isErr(t, "Path", err, api.OK)
				isList(t, "Path", p, want)
				p, err = b.s.Links(i+1, n)
				want, _ = path.Links(l[:n], i+1)
				isErr(t, "Links", err, api.OK)
				isList(t, "Links", p, want)
			}
		}
		for _, key := range keys() {
			for _, clock := range append(times(), none()...) {
				h := b.s.Head(key, clock)
				is(t, "Head", h, seal.Head(key, len(l), leaf.Root(l), clock))
				is(t, "HeadRight", seal.HeadRight(key, h), clock >= 0 && clock <= mostTime)
			}
		}
	}
}

// P18.2: a head is right by its own key alone.
func TestHeadOfOtherKeys(t *testing.T) {
	s := long(t, 5).s
	for _, key := range keys() {
		for _, other := range keys() {
			// Bytes 0 behind a key make no other key: the empty one is that of one byte 0.
			same := key == other || len(key) < 2 && len(other) < 2 && key != "k" && other != "k"
			is(t, "HeadRight", seal.HeadRight(other, s.Head(key, 9)), same)
		}
	}
}

// P18.3: windows rise, whatever was asked for.
func TestWindowsRise(t *testing.T) {
	p := newPicker()
	for range 50 {
		s, w := super.New(), 0
		for range 60 {
			f := p.freeze(w)
			if _, err := s.Anchor(f); err == api.OK {
				w = f.Window
			}
		}
		all := s.All()
		is(t, "Size", s.Size(), len(all))
		for i, f := range all {
			is(t, "may be", may(f), true)
			is(t, "rises", i == 0 || f.Window > all[i-1].Window, true)
			j, ok := s.Find(f.Window)
			is(t, "Find", j, i)
			is(t, "Find", ok, true)
		}
	}
}

// P18.3: the root of the first n never changes, nor what is in them; each two sizes' roots go together with their links, and each one's path is right.
func TestRootsGoTogether(t *testing.T) {
	s := super.New()
	var roots []api.Sum
	for n := 1; n <= 40; n++ {
		f := freeze(7 * n)
		_, err := s.Anchor(f)
		isErr(t, "Anchor", err, api.OK)
		roots = append(roots, s.Root())
	}
	all := s.All()
	for n := 1; n <= 40; n++ {
		elder, err := super.Load(all[:n])
		isErr(t, "Load", err, api.OK)
		is(t, "Root of the first ones", elder.Root(), roots[n-1])
		for m := 1; m <= n; m++ {
			k, err := s.Links(m, n)
			isErr(t, "Links", err, api.OK)
			is(t, name("40", "Goes", m, n), proof.Goes(roots[m-1], m, roots[n-1], n, k), true)
			l, _ := elder.Links(m, n)
			isList(t, "the elder one's Links", l, k)
			p, err := s.Path(m-1, n)
			isErr(t, "Path", err, api.OK)
			is(t, name("40", "Right", m-1, n), proof.Right(roots[n-1], seal.FreezeLeaf(all[m-1]), m-1, n, p), true)
			l, _ = elder.Path(m-1, n)
			isList(t, "the elder one's Path", l, p)
		}
	}
}

// P18.2: a copy is the same, and each of the two goes its own way.
func TestCopy(t *testing.T) {
	for i, b := range some(t) {
		what := strconv.Itoa(i)
		c := b.copy(t)
		c.isRight(t, what+", copied")
		for j := range 5 {
			b.anchor(t, what, freeze(1000+2*j))
			c.anchor(t, what+", copied", freeze(1001+3*j))
			d := c.copy(t)
			d.anchor(t, what+", copied again", freeze(2000))
			d.isRight(t, what+", copied again")
		}
		b.isRight(t, what)
		c.isRight(t, what+", copied")
	}
}

// R3: what is handed in may be changed behind the call, also where more is anchored then.
func TestHandedInIsItsOwners(t *testing.T) {
	for n := range 9 {
		all := long(t, n).s.All()
		l := slices.Grow(slices.Clone(all), 4)
		s, err := super.Load(l)
		isErr(t, "Load", err, api.OK)
		isList(t, "Load's list", l, all)
		b := both{s, &model{all}}
		clear(l)
		l = append(l, freeze(5))
		b.isRight(t, "cleared")
		b.anchor(t, "cleared", freeze(500))
		isList(t, "Load's list", l[n:], []api.Freeze{freeze(5)})
		b.isRight(t, "gone on")
	}
}

// R3: what is told is its owner's, and doesn't change where more is anchored.
func TestToldIsItsOwners(t *testing.T) {
	for n := 1; n < 9; n++ {
		b := long(t, n)
		all := b.s.All()
		kept := slices.Clone(all)
		for _, f := range []api.Freeze{freeze(500), freeze(501), freeze(502)} {
			b.anchor(t, "told", f)
		}
		isList(t, "All", all, kept)
		clear(all)
		_ = append(all, freeze(1), freeze(2))
		for i := range n {
			p, _ := b.s.Path(i, n)
			k, _ := b.s.Links(i+1, n)
			clear(p)
			clear(k)
			_, _ = append(p, api.Sum{1}), append(k, api.Sum{1})
		}
		b.isRight(t, "changed")
	}
}

// P18.1 to P18.3, R4: by chance, each held against the model; the same calls have the same answers.
func TestByChance(t *testing.T) {
	p := newPicker()
	for range 60 {
		l := []both{log(t)}
		for range 30 {
			b := l[p.IntN(len(l))]
			w := 0
			if n := len(b.m.all); n > 0 {
				w = b.m.all[n-1].Window
			}
			switch p.IntN(12) {
			case 0:
				l = append(l, b.copy(t))
			case 1:
				l = append(l, b.loaded(t, "by chance"))
			case 2:
				b.isFound(t, "by chance")
			default:
				b.anchor(t, "by chance", p.freeze(w))
			}
		}
		for _, b := range l {
			b.isTold(t, "by chance")
			b.isFound(t, "by chance")
		}
		l[len(l)-1].hasProofs(t, "by chance")
	}
}

// R5: a great one, of which what is told is still found.
func TestGreatOne(t *testing.T) {
	const n = 20000
	s := super.New()
	for i := range n {
		j, err := s.Anchor(api.Freeze{Window: 2 * i, Count: 1})
		isErr(t, "Anchor", err, api.OK)
		is(t, "Anchor", j, i)
	}
	root := s.Root()
	for i := 0; i < n; i += 4999 {
		j, ok := s.Find(2 * i)
		is(t, "Find", j, i)
		is(t, "Find", ok, true)
		_, ok = s.Find(2*i + 1)
		is(t, "Find beside it", ok, false)
		f, err := s.At(i)
		isErr(t, "At", err, api.OK)
		p, err := s.Path(i, n)
		isErr(t, "Path", err, api.OK)
		is(t, "Right", proof.Right(root, seal.FreezeLeaf(f), i, n, p), true)
	}
	u, err := super.Load(s.All())
	isErr(t, "Load", err, api.OK)
	is(t, "Load", u.Root(), root)
}

// P18.1 to P18.3: scripts: what a byte says is done, and the log held against the model.
func FuzzScripts(f *testing.F) {
	f.Add([]byte{1, 5, 5, 0x80, 3, 0x81, 9, 0x82, 0x40, 0x83, 1})
	f.Add([]byte("abcdefghijklmnopq"))
	f.Fuzz(func(t *testing.T, script []byte) {
		b, w := log(t), 0
		for i, c := range script[:min(len(script), 40)] {
			switch {
			case c < 0x40:
				// On by as much as it says, or not at all.
				w += int(c) / 2
				b.anchor(t, "script", freeze(w))
			case c < 0x80:
				b.anchor(t, "script", freeze(int(c)-0x40))
			case c < 0xa0:
				b.anchor(t, "script", api.Freeze{Window: none()[int(c)%len(none())], Count: 1})
			case c < 0xc0:
				b.anchor(t, "script", api.Freeze{Window: w + 1, Count: noCounts()[int(c)%len(noCounts())]})
			case c < 0xe0:
				b = b.loaded(t, "script")
			default:
				b.copy(t).anchor(t, "script", freeze(w+i))
			}
		}
		b.isTold(t, "script")
		b.isFound(t, "script")
		if len(b.m.all) < 12 {
			b.hasProofs(t, "script")
		}
	})
}

// P18.1: Load of two, whatever they are.
func FuzzLoad(f *testing.F) {
	f.Add(1, 1, []byte("a"), 2, 4000, []byte("b"))
	f.Add(3, 1, []byte("a"), 3, 1, []byte("b"))
	f.Add(0, 0, []byte{}, mostTime+1, mostCount+1, []byte{})
	f.Fuzz(func(t *testing.T, w, c int, x []byte, v, d int, y []byte) {
		l := []api.Freeze{{Window: w, Count: c, Root: hashOf(string(x))}, {Window: v, Count: d, Root: hashOf(string(y))}}
		if !may(l[0]) || !may(l[1]) || v <= w {
			isNone(t, "two", l)
			return
		}
		s, err := super.Load(l)
		isErr(t, "Load", err, api.OK)
		both{s, &model{l}}.isRight(t, "two")
	})
}
