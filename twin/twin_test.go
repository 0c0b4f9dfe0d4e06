package twin_test

import (
	"math"
	"slices"
	"strings"
	"testing"

	"scrinium/api"
	"scrinium/leaf"
	"scrinium/path"
	"scrinium/proof"
	"scrinium/sha"
	"scrinium/twin"
)

// P13.1: the chapter's examples.
func TestExamplesOfTwins(t *testing.T) {
	x := leaf.Leaf("x")
	w, ok := twin.Leaves(0, 1, x, x, nil, nil)
	isTold(t, "Leaves", w, ok, api.Twins{}, false)
	isBool(t, "Are alike", twin.Are(api.Twins{A: "a", B: "a"}), false)
	strongOnly(t)
	isBool(t, "Are unlike", twin.Are(api.Twins{A: "a", B: "b"}), false)
}

// someTexts are short ones, those that look like marks and nodes, and some that are another one's beginning or end.
func someTexts() []string {
	texts := []string{"", "\x00", "\x01", "\x00\x00", "\xff", "a\x00", "\x00a", strings.Repeat("a", 64), strings.Repeat("a", 65), over(api.Sum{}, api.Sum{}), over(api.Sum{1}, api.Sum{}), over(api.Sum{}, api.Sum{1})}
	for a := 'a'; a < 'g'; a++ {
		texts = append(texts, string(a), "a"+string(a), string(a)+"b")
	}
	return texts
}

// P13.1: unlike, and one hash: both are asked.
func TestAre(t *testing.T) {
	texts := someTexts()
	for _, a := range texts {
		isBool(t, "Are alike", twin.Are(api.Twins{A: a, B: a}), false)
		isBool(t, "Are alike, but not the same memory", twin.Are(api.Twins{A: a, B: strings.Clone(a)}), false)
		for _, b := range texts {
			want := a != b && sha.Of(a) == sha.Of(b)
			isBool(t, "Are", twin.Are(api.Twins{A: a, B: b}), want)
			isBool(t, "Are the other way round", twin.Are(api.Twins{A: b, B: a}), want)
		}
	}
	isBool(t, "Are no texts", twin.Are(api.Twins{}), false)
}

// P13.1: the texts are a byte 0 and the data: these must be twins, not the data.
func TestData(t *testing.T) {
	texts, found := someTexts(), 0
	for _, a := range texts {
		for _, b := range texts {
			var want api.Twins
			wanted := a != b && leaf.Leaf(a) == leaf.Leaf(b)
			if wanted {
				want, found = api.Twins{A: "\x00" + a, B: "\x00" + b}, found+1
			}
			got, ok := twin.Data(a, b)
			isTold(t, "Data", got, ok, want, wanted)
		}
	}
	isFound(t, "Data", found)
}

// isFound fails if there were no twins under the weak hash, so that a test would have tried nothing, or if there were some under sha's own.
func isFound(t *testing.T, what string, found int) {
	t.Helper()
	isBool(t, what+": twins were found", found > 0, weak())
}

// R5: texts are never too long to be answered.
func TestLongTexts(t *testing.T) {
	long := strings.Repeat("a", api.MaxText+1)
	other := long[1:] + "b"
	isBool(t, "Are alike", twin.Are(api.Twins{A: long, B: strings.Clone(long)}), false)
	w, ok := twin.Data(long, strings.Clone(long))
	isTold(t, "Data alike", w, ok, api.Twins{}, false)
	strongOnly(t)
	isBool(t, "Are unlike", twin.Are(api.Twins{A: long, B: other}), false)
	w, ok = twin.Data(long, other)
	isTold(t, "Data unlike", w, ok, api.Twins{}, false)
}

// each hands each list of so many of these hashes to do.
func each(of []api.Sum, long int, do func([]api.Sum)) {
	row := make([]api.Sum, long)
	var fill func(i int)
	fill = func(i int) {
		if i == long {
			do(row)
			return
		}
		for _, x := range of {
			row[i] = x
			fill(i + 1)
		}
	}
	fill(0)
}

// P13.1: in small trees all leaves and paths of three hashes, against the chapters' words.
func TestAllLeavesOfSmallTrees(t *testing.T) {
	three := []api.Sum{{}, {31: 1}, right("made")}
	found := 0
	for n := 1; n <= 5; n++ {
		for m := range n {
			long := path.Long(m, n)
			each(three, 2+2*long, func(l []api.Sum) {
				if areLeaves(t, m, n, l[0], l[1], l[2:2+long], l[2+long:]) {
					found++
				}
			})
		}
	}
	isFound(t, "Leaves", found)
}

// P13.1: in small trees all elder roots and links of a few hashes, against the chapters' words.
func TestAllLinksOfSmallTrees(t *testing.T) {
	three := []api.Sum{{}, {31: 1}, right("made")}
	found := 0
	for n := 1; n <= 6; n++ {
		for m := 1; m <= n; m++ {
			long := path.LinksLong(m, n)
			of := three
			if long > 3 {
				of = three[1:]
			}
			each(of, 2+2*long, func(l []api.Sum) {
				if areTrees(t, m, n, l[0], l[1], l[2:2+long], l[2+long:]) {
					found++
				}
			})
		}
	}
	isFound(t, "Trees", found)
}

// P13.2: two leaves, or two paths, that are right of one root, place and number, but unlike, lead to twins; alike ones to none.
func TestUnlikeLeavesLeadToTwins(t *testing.T) {
	draw, found := newPicker(), 0
	for _, n := range []int{1, 2, 3, 4, 5, 6, 7, 8, 9, 13, 31, 32, 33, 1000, 0x123456789a, most - 1, most} {
		for range 400 {
			m := draw.IntN(n)
			x, y, a := draw.pick(), draw.pick(), draw.row(path.Long(m, n))
			b := draw.near(a)
			told := areLeaves(t, m, n, x, y, a, b)
			root, _ := proof.Fold(x, m, n, a)
			if !proof.Right(root, y, m, n, b) {
				isBool(t, called("Leaves of two roots", m, n), told, false)
				continue
			}
			isBool(t, called("Leaves", m, n), told, x != y || !slices.Equal(a, b))
			if told {
				found++
			}
		}
	}
	isFound(t, "Leaves", found)
}

// P13.2: two elder roots that go together with one newer one, with the same numbers, but are unlike, lead to twins.
func TestUnlikeElderRootsLeadToTwins(t *testing.T) {
	draw, found := newPicker(), 0
	for _, n := range []int{1, 2, 3, 4, 5, 6, 7, 8, 9, 13, 31, 32, 33, 1000, 0x123456789a, most - 1, most} {
		for range 400 {
			m := draw.IntN(n) + 1
			x, y, a := draw.pick(), draw.pick(), draw.row(path.LinksLong(m, n))
			b := draw.near(a)
			x, y = elderOf(t, x, m, n, a), elderOf(t, y, m, n, b)
			told := areTrees(t, m, n, x, y, a, b)
			_, newer, _ := proof.Both(x, m, n, a)
			if !proof.Goes(y, m, newer, n, b) {
				isBool(t, called("Trees of two newer roots", m, n), told, false)
				continue
			}
			isBool(t, called("Trees", m, n), told, x != y || !slices.Equal(a, b))
			if told && x != y {
				found++
			}
		}
	}
	isFound(t, "Trees", found)
}

// P13.1: the first hashes are not asked: elder roots that are no such ones have no effect where the way doesn't begin with them.
func TestElderRootsAreNotAsked(t *testing.T) {
	draw, found := newPicker(), 0
	for n := 3; n < 12; n++ {
		for m := 3; m < n; m++ {
			if m&(m-1) == 0 {
				continue
			}
			for range 40 {
				a := draw.row(path.LinksLong(m, n))
				b := draw.near(a)
				want, wanted := wantTrees(m, n, api.Sum{}, api.Sum{}, a, b)
				got, ok := twin.Trees(m, n, right("no elder root"), draw.pick(), a, b)
				isTold(t, called("Trees", m, n), got, ok, want, wanted)
				if ok {
					found++
				}
			}
		}
	}
	isFound(t, "Trees", found)
}

// P13.1: of one tree's own leaves and paths, and links and roots, nothing is told: they don't contradict each other, whichever two are taken.
func TestRightProofsLeadToNothing(t *testing.T) {
	l := made(20)
	for n := 1; n <= len(l); n++ {
		row := l[:n]
		for m := range row {
			p, _ := path.Path(row, m)
			w, ok := twin.Leaves(m, n, row[m], row[m], p, slices.Clone(p))
			isTold(t, called("Leaves", m, n), w, ok, api.Twins{}, false)
			areLeaves(t, m, n, row[m], row[(m+1)%n], p, p)

			links, _ := path.Links(row, m+1)
			elder := leaf.Root(row[:m+1])
			w, ok = twin.Trees(m+1, n, elder, elder, links, slices.Clone(links))
			isTold(t, called("Trees", m+1, n), w, ok, api.Twins{}, false)
			areTrees(t, m+1, n, elder, leaf.Root(row[:m]), links, links)
		}
	}
}

// P13.1: no bit of a leaf, a root or a hash may be another one without another root coming of it.
func TestEachBitCounts(t *testing.T) {
	strongOnly(t)
	h := made(9)
	for bit := range 256 {
		isBool(t, "Leaves", areLeaves(t, 2, 5, h[0], unlike(h[0], bit), h[1:4], h[1:4]), false)
		isBool(t, "Trees", areTrees(t, 4, 7, h[0], unlike(h[0], bit), h[1:2], h[1:2]), false)
		for i := range 3 {
			p := slices.Clone(h[1:4])
			p[i] = unlike(p[i], bit)
			isBool(t, "Leaves with another path", areLeaves(t, 2, 5, h[0], h[0], h[1:4], p), false)
			isBool(t, "Trees with other links", areTrees(t, 6, 7, h[0], h[0], h[1:4], p), false)
		}
	}
}

// P13.1: where there are not as many hashes as there must be, on one side or on both, nothing is told.
func TestTwinsOfOtherLengths(t *testing.T) {
	h := made(12)
	for n := 1; n < 20; n++ {
		for m := range n {
			for one := range 7 {
				for other := range 7 {
					a, b := h[2:2+one], h[5:5+other]
					areLeaves(t, m, n, h[0], h[1], a, b)
					areTrees(t, m+1, n, h[0], h[1], a, b)
				}
			}
		}
	}
}

// noTwins fails if something is told of numbers that no tree has.
func noTwins(t *testing.T, m, n int, h []api.Sum) {
	t.Helper()
	for _, long := range []int{0, 1, 2, 3, 39, 40, 41, 43} {
		for _, y := range []api.Sum{h[0], h[1]} {
			w, ok := twin.Leaves(m, n, h[0], y, h[:long], h[len(h)-long:])
			isTold(t, called("Leaves", m, n), w, ok, api.Twins{}, false)
			w, ok = twin.Trees(m, n, h[0], y, h[:long], h[len(h)-long:])
			isTold(t, called("Trees", m, n), w, ok, api.Twins{}, false)
		}
	}
}

// P13.1, P1: of numbers that no tree has, with no hashes and with some.
func TestNoTwins(t *testing.T) {
	h := made(86)
	for n := 1; n < 12; n++ {
		for _, m := range beyond(n) {
			noTwins(t, m, n, h)
		}
	}
	for _, n := range []int{0, -1, -2, -5, -most, math.MinInt, math.MinInt + 1} {
		for _, m := range append(beyond(5), 0, 1, n-1, n, n+1) {
			noTwins(t, m, n, h)
		}
	}
	for _, n := range []int{most + 1, most + 2, 2 * most, 1 << 50, 1 << 62, math.MaxInt - 1, math.MaxInt} {
		for _, m := range []int{0, 1, 2, most - 1, most, most + 1, n - 1, n, -1, math.MinInt} {
			noTwins(t, m, n, h)
		}
	}
}

// R3, R4: hashes that are handed in stay as they are, what is behind them too; asked again the same is told, and it doesn't change later.
func TestTwinsLeaveWhatTheyAreHanded(t *testing.T) {
	draw := newPicker()
	for n := 1; n < 12; n++ {
		for m := 1; m <= n; m++ {
			for range 20 {
				l := draw.row(16)
				kept := slices.Clone(l)
				long := path.Long(m-1, n)
				a, b := l[2:2+long], l[8:8+long]
				w, ok := twin.Leaves(m-1, n, l[0], l[1], a, b)
				areLeaves(t, m-1, n, l[0], l[1], slices.Clip(a), slices.Clip(b))
				long = path.LinksLong(m, n)
				a, b = l[2:2+long], l[8:8+long]
				v, also := twin.Trees(m, n, l[0], l[1], a, b)
				areTrees(t, m, n, l[0], l[1], slices.Clip(a), slices.Clip(b))
				if !slices.Equal(l, kept) {
					t.Fatalf("%s: what was handed in was changed", called("twins", m, n))
				}
				clear(l)
				isBool(t, called("Leaves, later", m-1, n), twin.Are(w), ok)
				isBool(t, called("Trees, later", m, n), twin.Are(v), also)
			}
		}
	}
}

// P13.1, P1: whatever the numbers and the hashes are.
func FuzzTwins(f *testing.F) {
	f.Add(0, 1, "", "")
	f.Add(2, 5, "abcde", "abxde")
	f.Add(3, 5, "abcdef", "bacdef")
	f.Add(most-1, most, "the quick brown fox jumps over the lazy dog", "")
	f.Add(math.MinInt, math.MaxInt, "abc", "abc")
	f.Fuzz(func(t *testing.T, m, n int, s, u string) {
		row := func(s string) []api.Sum {
			l := []api.Sum{{5: 1}}
			for i := range s {
				l = append(l, api.Sum{0: s[i], 31: s[len(s)-1-i]})
			}
			return l
		}
		are := func(m, n int, a, b []api.Sum) {
			areLeaves(t, m, n, a[0], b[0], a[1:], b[1:])
			areTrees(t, m, n, a[0], b[0], a[1:], b[1:])
		}
		a, b := row(s), row(u)
		are(m, n, a, b)
		n = int(uint(n)%most) + 1
		m = int(uint(m)%uint(n)) + 1
		are(m, n, a, b)
		a, b = append(a, made(42)...), append(b, made(42)...)
		are(m, n, a[:1+path.LinksLong(m, n)], b[:1+path.LinksLong(m, n)])
		are(m-1, n, a[:1+path.Long(m-1, n)], b[:1+path.Long(m-1, n)])
	})
}
