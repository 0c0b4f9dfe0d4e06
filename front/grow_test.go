package front_test

import (
	"math/bits"
	"slices"
	"strconv"
	"testing"

	"scrinium/api"
	"scrinium/front"
	"scrinium/leaf"
)

// P11.1: the chapter's examples.
func TestExamplesOfGrowing(t *testing.T) {
	a, b, c := leaf.Leaf("a"), leaf.Leaf("b"), leaf.Leaf("c")
	f := front.New()
	isInt(t, "Add a", f.Add(a), 1)
	isInt(t, "Add b", f.Add(b), 2)
	isInt(t, "Add c", f.Add(c), 3)
	isInt(t, "Size", f.Size(), 3)
	isSums(t, "Peaks", f.Peaks(), []api.Sum{leaf.Node(a, b), c})
	isHex(t, "Root", f.Root(), "36642e73c2540ab121e3a6bf9545b0a24982cd830eb13d3cd19de3ce6c021ec1")
}

// P11.1: the known roots of the leaves with which logs are usually tried.
func TestKnownRoots(t *testing.T) {
	f := front.New()
	isHex(t, "none", f.Root(), ofNothing)
	for i, want := range []string{
		"6e340b9cffb37a989ca544e6bb780a2c78901d3fb33738768511a30617afa01d",
		"fac54203e7cc696cf0dfcb42c92a1d9dbaf70ad9e621f4bd8d98662f00e3c125",
		"aeb6bcfe274b70a14fb067a5e5578264db0fa9b51af5e0ba159158f329e06e77",
		"d37ee418976dd95753c1c73862b9398fa2a2cf9b4ff0fdfe8b30cd95209614b7",
		"4e3bbb1f7b478dcfe71fb631631519a3bca12c9aefca1612bfce4c13a86264d4",
		"76e67dadbcdf1e10e1b74ddc608abd2f98dfb16fbce75277b5232a127f2087ef",
		"ddb89be403809e325750d3d263cd78929c2942b7942a34b77e122c9594a74c8c",
		"5dc9da79a70659a9ad559cb701ded9a2ab9d823aad2f4960cfe370eff4604328",
	} {
		isInt(t, "Add", f.Add(eight()[i]), i+1)
		isHex(t, strconv.Itoa(i+1), f.Root(), want)
	}
}

// P11.1: seven leaves, peak by peak.
func TestPeaksOfFew(t *testing.T) {
	l := leaves(8)
	a, b, c, d, e, f, g, h := l[0], l[1], l[2], l[3], l[4], l[5], l[6], l[7]
	four := above(above(a, b), above(c, d))
	for n, want := range [][]api.Sum{
		{},
		{a},
		{above(a, b)},
		{above(a, b), c},
		{four},
		{four, e},
		{four, above(e, f)},
		{four, above(e, f), g},
		{above(four, above(above(e, f), above(g, h)))},
	} {
		isSums(t, strconv.Itoa(n), frontOf(l[:n]).Peaks(), want)
	}
}

// P11.1: a new one, and each new one is another.
func TestNew(t *testing.T) {
	f := front.New()
	isFront(t, "new", f, new(tree))
	isSum(t, "Root", f.Root(), leaf.Empty())
	isInt(t, "Peaks", len(f.Peaks()), 0)
	f.Add(right("a"))
	isFront(t, "another new one", front.New(), new(tree))
}

// P11.1, P11.3: leaf by leaf: sizes, roots of whole parts as the chapter cuts them, the root of all as layer 9 has it.
func TestGrowsLeafByLeaf(t *testing.T) {
	all := leaves(600)
	f, want := front.New(), new(tree)
	for i, x := range all {
		isInt(t, "Add", f.Add(x), i+1)
		want.add(x)
		isFront(t, strconv.Itoa(i+1), f, want)
		isWhole(t, f, all[:i+1])
	}
}

// isWhole fails if f doesn't tell the roots of the whole parts of l, as its number of leaves has bits that are 1.
func isWhole(t *testing.T, f *front.Front, l []api.Sum) {
	t.Helper()
	what := strconv.Itoa(len(l))
	var peaks []api.Sum
	rest := l
	for i := bits.Len(uint(len(l))) - 1; i >= 0; i-- {
		if len(l)>>i&1 == 1 {
			peaks = append(peaks, leaf.Root(rest[:1<<i]))
			rest = rest[1<<i:]
		}
	}
	isInt(t, what+": Size", f.Size(), len(l))
	isSums(t, what+": Peaks", f.Peaks(), peaks)
	isSum(t, what+": Root", f.Root(), leaf.Root(l))
}

// P11.1: greater trees.
func TestGrowsGreater(t *testing.T) {
	all := leaves(api.MaxCount + 1)
	for _, n := range sizes() {
		isWhole(t, frontOf(all[:n]), all[:n])
	}
}

// P11.1: leaves may be any, and alike.
func TestLeavesOfAllLooks(t *testing.T) {
	l := looks()
	for n := range len(l) + 1 {
		isWhole(t, frontOf(l[:n]), l[:n])
		isFront(t, "looks", frontOf(l[:n]), treeOf(l[:n]))
	}
	for _, x := range l[:3] {
		same := slices.Repeat([]api.Sum{x}, 37)
		isWhole(t, frontOf(same), same)
	}
}

// P11.1: up to 2^40 leaves it grows; with these nothing happens.
func TestGrowsToTheEdge(t *testing.T) {
	for _, left := range []int{3, 2, 1, 0} {
		want := treeOfSize(most - left)
		f := read(t, "at the edge", want.bytes())
		for i := range left {
			x := right(strconv.Itoa(i))
			isInt(t, "Add", f.Add(x), most-left+i+1)
			want.add(x)
			isFront(t, "at the edge", f, want)
		}
		isInt(t, "Peaks", len(f.Peaks()), 1)
		for range 3 {
			isInt(t, "Add to 2^40", f.Add(right("more")), 0)
			isFront(t, "with 2^40", f, want)
		}
	}
}

// P11.1, P11.3: great sizes, some leaves on.
func TestGrowsFromGreatSizes(t *testing.T) {
	for _, n := range greatSizes() {
		want := treeOfSize(n)
		f := read(t, strconv.Itoa(n), want.bytes())
		isFront(t, strconv.Itoa(n), f, want)
		for i := n + 1; i <= min(n+9, most); i++ {
			x := right(strconv.Itoa(i))
			isInt(t, "Add", f.Add(x), i)
			want.add(x)
			isFront(t, strconv.Itoa(i), f, want)
		}
	}
}

// P11.1: a copy is the same, and each goes its own way.
func TestCopiesGoTheirOwnWay(t *testing.T) {
	all := leaves(80)
	for n := range all {
		f := frontOf(all[:n])
		c := f.Copy()
		if c == f {
			t.Fatal("Copy: the same one, not another")
		}
		one, other := treeOf(all[:n]), treeOf(all[:n])
		isFront(t, "Copy", c, other)
		for i := range 5 {
			x, y := right("x"+strconv.Itoa(i)), right("y"+strconv.Itoa(i))
			one.add(x)
			other.add(y)
			isInt(t, "Add", f.Add(x), n+i+1)
			isInt(t, "Add to the copy", c.Add(y), n+i+1)
			isFront(t, "one", f, one)
			isFront(t, "its copy", c, other)
		}
	}
}

// P11.1: copies of the smallest and of the greatest.
func TestCopiesAtTheEdges(t *testing.T) {
	isFront(t, "of a new one", front.New().Copy(), new(tree))
	isFront(t, "of a zero one", new(front.Front).Copy(), new(tree))
	want := treeOfSize(most - 1)
	f := read(t, "most", want.bytes())
	c := f.Copy()
	isInt(t, "Add to the copy", c.Add(right("a")), most)
	isFront(t, "one", f, want)
	want.add(right("a"))
	isFront(t, "its copy", c, want)
	isInt(t, "Add to the copy's copy", c.Copy().Add(right("a")), 0)
}

// P11.1: as sha.Hash, also one that is copied as a value goes its own way.
func TestValuesGoTheirOwnWay(t *testing.T) {
	all := leaves(40)
	for n := range all {
		f := frontOf(all[:n])
		c := *f
		one, other := treeOf(all[:n]), treeOf(all[:n])
		for i := range 4 {
			x, y := right("x"+strconv.Itoa(i)), right("y"+strconv.Itoa(i))
			f.Add(x)
			c.Add(y)
			one.add(x)
			other.add(y)
		}
		isFront(t, "one", f, one)
		isFront(t, "its value", &c, other)
	}
}

// R1, P1: a nil front.
func TestNilFront(t *testing.T) {
	var f *front.Front
	for range 2 {
		isInt(t, "Add", f.Add(right("a")), 0)
		isInt(t, "Size", f.Size(), 0)
		isHex(t, "Root", f.Root(), ofNothing)
		isInt(t, "Peaks", len(f.Peaks()), 0)
		isBytes(t, "Bytes", f.Bytes(), "\x00\x00")
		if c := f.Copy(); c != nil {
			t.Errorf("Copy: %v, want nil", c)
		}
	}
}

// A zero front is a new one.
func TestZeroFront(t *testing.T) {
	var f front.Front
	want := new(tree)
	isFront(t, "zero", &f, want)
	for i, x := range leaves(20) {
		isInt(t, "Add", f.Add(x), i+1)
		want.add(x)
		isFront(t, "of a zero one", &f, want)
	}
	f = front.Front{}
	isFront(t, "zero again", &f, new(tree))
}

// R3: peaks that are told are their owner's, and don't change later.
func TestPeaksAreTheirOwners(t *testing.T) {
	all := leaves(70)
	f, want := front.New(), new(tree)
	var told, kept [][]api.Sum
	for _, x := range all {
		f.Add(x)
		want.add(x)
		told, kept = append(told, f.Peaks()), append(kept, want.peaks())
		p := f.Peaks()
		clear(p[:cap(p)])
		_ = append(f.Peaks(), api.Sum{1}, api.Sum{2})
		isFront(t, "peaks were cleared", f, want)
	}
	for i := range told {
		isSums(t, "told earlier", told[i], kept[i])
	}
}

// R4: no front hangs on another one.
func TestFrontsSideBySide(t *testing.T) {
	var l []*front.Front
	var want []*tree
	for range 9 {
		l, want = append(l, front.New()), append(want, new(tree))
	}
	for i, x := range leaves(300) {
		at := i * i % 9
		l[at].Add(x)
		want[at].add(x)
	}
	for i := range l {
		isFront(t, strconv.Itoa(i), l[i], want[i])
	}
}

// P11.1, P11.3: whatever the leaves are, and wherever it is copied, or written and read.
func FuzzGrowing(f *testing.F) {
	f.Add(uint64(0), []byte("abc"))
	f.Add(uint64(most-2), []byte("abcd"))
	f.Add(uint64(most-1), []byte("a"))
	f.Add(uint64(0x5555555555), []byte{0, 1, 2, 3, 4, 5, 6, 7, 8})
	f.Fuzz(func(t *testing.T, from uint64, script []byte) {
		want := treeOfSize(int(from % (most + 1)))
		g := read(t, "first", want.bytes())
		for _, c := range script[:min(len(script), 50)] {
			x := api.Sum{c, 31: ^c}
			size := want.size() + 1
			if size > most {
				size = 0
			} else {
				want.add(x)
			}
			switch c % 4 {
			case 0:
				g = g.Copy()
			case 1:
				g = read(t, "again", g.Bytes())
			}
			isInt(t, "Add", g.Add(x), size)
			isFront(t, "grown", g, want)
		}
	})
}
