package mac_test

import (
	"testing"

	"scrinium/api"
	"scrinium/mac"
)

// hasKey fails if the maker is not one with that key. It asks twice, as asking must change nothing.
func hasKey(t *testing.T, what string, m *mac.Maker, key string) {
	t.Helper()
	for range 2 {
		isSum(t, what+", nothing", m.Sum(), right(key, ""))
		isSum(t, what+", Name", m.Name(), right(key, "name"))
		for _, n := range []int{0, 1, 63, 64, 65, 130} {
			s := text(n)
			want := right(key, s)
			isSum(t, what+", Sum", m.Sum(s), want)
			if !m.Right(want, s) || m.Right(want, s, "x") {
				t.Errorf("%s: Right is wrong of a text of %d bytes", what, n)
			}
		}
	}
}

// P3.3: makers by keys around the edge of a block.
func TestMaker(t *testing.T) {
	for _, n := range edges() {
		hasKey(t, "New", mac.New(text(n)), text(n))
	}
	if mac.New("key") == mac.New("key") {
		t.Error("New tells one maker twice")
	}
}

// P3.3: Of and Right are those of a maker.
func TestMakerIsOf(t *testing.T) {
	for _, key := range []string{"", "key", text(63), text(64), text(65)} {
		m := mac.New(key)
		for _, parts := range [][]string{nil, {}, {""}, {"a"}, {"a", "", "bc"}, {text(64), text(65)}} {
			s := mac.Of(key, parts...)
			isSum(t, "Sum", m.Sum(parts...), s)
			if !m.Right(s, parts...) || !mac.Right(key, s, parts...) {
				t.Errorf("Right of %q: false", parts)
			}
		}
		isSum(t, "Name", m.Name(), mac.Of(key, "name"))
	}
}

// P3.3: a maker is used again and again, its calls among each other; none has an effect on a later one.
func TestMakerAgainAndAgain(t *testing.T) {
	m, other := mac.New("key"), mac.New("kez")
	for n := range 300 {
		s := text(n)
		isSum(t, "Sum", m.Sum(s), right("key", s))
		isSum(t, "Sum of another key's", other.Sum(s), right("kez", s))
		isSum(t, "Name", m.Name(), right("key", "name"))
		if !m.Right(right("key", s), s) || m.Right(right("kez", s), s) || other.Right(right("key", s), s) {
			t.Errorf("Right: wrong at a text of %d bytes", n)
		}
		isSum(t, "Sum of nothing", m.Sum(), right("key", ""))
	}
}

// P3.3: bits of a sum that are turned.
func TestMakerKnowsItsSumAlone(t *testing.T) {
	for _, n := range []int{0, 63, 64, 65} {
		m := mac.New(text(n))
		s := m.Sum("abc")
		for i := range len(s) * 8 {
			turned := s
			turned[i/8] ^= 1 << (i % 8)
			if m.Right(turned, "abc") {
				t.Errorf("Right: the sum with bit %d turned is right", i)
			}
		}
		if m.Right(api.Sum{}, "abc") || m.Right(s, "abd") || m.Right(s) || m.Right(m.Name(), "abc") || !m.Right(m.Name(), "na", "me") {
			t.Error("Right: wrong of another text")
		}
	}
}

// P3.3, P3.4: a maker's parts may be cut anyhow, and bytes 0 behind its key don't matter.
func TestMakerCuts(t *testing.T) {
	m, longer := mac.New("key"), mac.New("key"+zeros(61))
	isSum(t, "Name", longer.Name(), m.Name())
	for _, n := range edges() {
		s := text(n)
		want := right("key", s)
		for size := 1; size < 70; size++ {
			parts := append([]string{""}, pieces(s, size)...)
			isSum(t, "Sum", m.Sum(parts...), want)
			isSum(t, "Sum by bytes 0 behind", longer.Sum(parts...), want)
			if !m.Right(want, parts...) || !longer.Right(want, parts...) {
				t.Errorf("Right of parts of %d bytes: false", size)
			}
		}
	}
}

// R3: what is told is its owner's, and parts may be changed behind the call.
func TestWhatIsToldStays(t *testing.T) {
	m := mac.New("key")
	parts := []string{"a", "b"}
	s := m.Sum(parts...)
	parts[0] = "x"
	isSum(t, "behind a change of the parts", s, right("key", "ab"))
	s[0]++
	name := m.Name()
	name[0]++
	hasKey(t, "behind a change of what was told", m, "key")
}

// R1, P1
func TestNilMaker(t *testing.T) {
	var m *mac.Maker
	for range 2 {
		for _, parts := range [][]string{nil, {""}, {"abc"}, {"a", text(200)}} {
			isSum(t, "Sum of a nil maker", m.Sum(parts...), api.Sum{})
			for _, s := range []api.Sum{{}, mac.Of("", parts...), mac.Of("key", parts...)} {
				if m.Right(s, parts...) {
					t.Errorf("Right of a nil maker: true for %x", s)
				}
			}
		}
		isSum(t, "Name of a nil maker", m.Name(), api.Sum{})
		if m.Right(m.Name(), "name") {
			t.Error("Right of a nil maker's own name: true")
		}
	}
}

// R1: a zero maker is New of the empty key, whichever call is the first.
func TestZeroMaker(t *testing.T) {
	var zero mac.Maker
	hasKey(t, "zero", &zero, "")
	var named, asked mac.Maker
	isSum(t, "Name of a zero maker", named.Name(), mac.New("").Name())
	hasKey(t, "zero, named", &named, "")
	if !asked.Right(mac.Of("", "abc"), "abc") || asked.Right(api.Sum{}, "abc") || asked.Right(mac.Of("key", "abc"), "abc") {
		t.Error("Right of a zero maker is wrong")
	}
	hasKey(t, "zero, asked", &asked, "")
	hasKey(t, "new", new(mac.Maker), "")
}

// P3.2 to P3.4, P1: whatever the bytes are, and wherever they are cut.
func FuzzSums(f *testing.F) {
	for _, n := range edges() {
		f.Add(text(n), text(n+1), n/2)
	}
	f.Fuzz(func(t *testing.T, key, s string, i int) {
		i = int(uint(i) % uint(len(s)+1))
		want := right(key, s)
		isSum(t, "Of", mac.Of(key, s[:i], s[i:]), want)
		isSum(t, "Of, padded", mac.Of(mac.Pad(key), s), want)
		m := mac.New(key)
		isSum(t, "Sum of a part", m.Sum(s[:i]), right(key, s[:i]))
		isSum(t, "Sum", m.Sum(s[:i], s[i:]), want)
		if !m.Right(want, s) || !mac.Right(key, want, s) || m.Right(want, s, "x") || mac.Right(key, want, s, "x") {
			t.Error("Right is wrong")
		}
	})
}
