package leaf_test

import (
	"math"
	"math/bits"
	"slices"
	"strconv"
	"testing"

	"scrinium/api"
	"scrinium/leaf"
)

// leaves are n, no two alike.
func leaves(n int) []api.Sum {
	l := make([]api.Sum, n)
	for i := range l {
		l[i] = leaf.Leaf(strconv.Itoa(i))
	}
	return l
}

// above is the hash above two, by the library of the language.
func above(a, b api.Sum) api.Sum { return right("\x01" + string(a[:]) + string(b[:])) }

// grown is the root of l by another way than the chapter's: leaf by leaf, whole parts of one size are put together; at the end what is left, from the last one on.
func grown(l []api.Sum) api.Sum {
	var peaks []api.Sum
	for i, x := range l {
		for size := i + 1; size%2 == 0; size /= 2 {
			x = above(peaks[len(peaks)-1], x)
			peaks = peaks[:len(peaks)-1]
		}
		peaks = append(peaks, x)
	}
	if len(peaks) == 0 {
		return right("")
	}
	root := peaks[len(peaks)-1]
	for _, p := range slices.Backward(peaks[:len(peaks)-1]) {
		root = above(p, root)
	}
	return root
}

// sizes are those around powers of two, and some between.
func sizes() []int {
	return []int{300, 511, 512, 513, 768, 1000, 1023, 1024, 1025, 1536, 2047, 2048, 2049, 3999, api.MaxCount, api.MaxCount + 1, 4095, 4096, 4097}
}

func isSplit(t *testing.T, n, want int) {
	t.Helper()
	if got := leaf.Split(n); got != want {
		t.Errorf("Split(%d): %d, want %d", n, got, want)
	}
}

// P9.2: each n, counted up.
func TestSplitOfEachNumber(t *testing.T) {
	for n := -70; n < 2; n++ {
		isSplit(t, n, 0)
	}
	k := 1
	for n := 2; n < 1<<17; n++ {
		if 2*k < n {
			k *= 2
		}
		isSplit(t, n, k)
	}
}

// P9.2: around each power of two, up to the greatest number, and of numbers below 0.
func TestSplitAroundPowers(t *testing.T) {
	for i := 2; i < bits.UintSize-1; i++ {
		p := 1 << i
		isSplit(t, p-1, p/2)
		isSplit(t, p, p/2)
		isSplit(t, p+1, p)
		isSplit(t, p+p/2, p)
		for _, n := range []int{1 - p, -p, -1 - p} {
			isSplit(t, n, 0)
		}
	}
	isSplit(t, math.MaxInt, 1<<(bits.UintSize-2))
	isSplit(t, math.MaxInt-1, 1<<(bits.UintSize-2))
	isSplit(t, math.MinInt, 0)
	isSplit(t, math.MinInt+1, 0)
}

// P9.2: the chapter's example, and trees that were made elsewhere: the eight leaves with which logs are tried.
func TestExamplesOfRoots(t *testing.T) {
	isHexOf(t, "a, b, c", leaf.Root([]api.Sum{leaf.Leaf("a"), leaf.Leaf("b"), leaf.Leaf("c")}), "36642e73c2540ab121e3a6bf9545b0a24982cd830eb13d3cd19de3ce6c021ec1")
	roots := []string{
		ofNothing,
		ofLeaf,
		"fac54203e7cc696cf0dfcb42c92a1d9dbaf70ad9e621f4bd8d98662f00e3c125",
		"aeb6bcfe274b70a14fb067a5e5578264db0fa9b51af5e0ba159158f329e06e77",
		"d37ee418976dd95753c1c73862b9398fa2a2cf9b4ff0fdfe8b30cd95209614b7",
		"4e3bbb1f7b478dcfe71fb631631519a3bca12c9aefca1612bfce4c13a86264d4",
		"76e67dadbcdf1e10e1b74ddc608abd2f98dfb16fbce75277b5232a127f2087ef",
		"ddb89be403809e325750d3d263cd78929c2942b7942a34b77e122c9594a74c8c",
		"5dc9da79a70659a9ad559cb701ded9a2ab9d823aad2f4960cfe370eff4604328",
	}
	var l []api.Sum
	for _, data := range []string{"", "\x00", "\x10", "\x20\x21", "\x30\x31", "\x40\x41\x42\x43", "\x50\x51\x52\x53\x54\x55\x56\x57", "\x60\x61\x62\x63\x64\x65\x66\x67\x68\x69\x6a\x6b\x6c\x6d\x6e\x6f"} {
		l = append(l, leaf.Leaf(data))
	}
	for n, want := range roots {
		isHexOf(t, strconv.Itoa(n)+" leaves", leaf.Root(l[:n]), want)
	}
}

// P9.2, R1: of none, nil or empty.
func TestRootOfNone(t *testing.T) {
	for _, l := range [][]api.Sum{nil, {}, leaves(3)[:0]} {
		isSum(t, "Root of none", leaf.Root(l), leaf.Empty())
		isHexOf(t, "Root of none", leaf.Root(l), ofNothing)
	}
}

// P9.2: of one that one, whatever it is.
func TestRootOfOne(t *testing.T) {
	for _, x := range kinds() {
		isSum(t, "Root of one", leaf.Root([]api.Sum{x}), x)
	}
}

// P9.2: as the chapter puts it together, by Split and Node.
func TestRootIsOfBothParts(t *testing.T) {
	all := leaves(260)
	for n := 2; n <= len(all); n++ {
		l := all[:n]
		k := leaf.Split(n)
		isSum(t, "Root of "+strconv.Itoa(n), leaf.Root(l), leaf.Node(leaf.Root(l[:k]), leaf.Root(l[k:])))
	}
}

// P9.2: against a tree that grows leaf by leaf.
func TestRootIsGrown(t *testing.T) {
	all := leaves(5000)
	for n := range 260 {
		isSum(t, "Root of "+strconv.Itoa(n), leaf.Root(all[:n]), grown(all[:n]))
		isSum(t, "Root of "+strconv.Itoa(n)+" from the seventh on", leaf.Root(all[7:7+n]), grown(all[7:7+n]))
	}
	for _, n := range sizes() {
		isSum(t, "Root of "+strconv.Itoa(n), leaf.Root(all[:n]), grown(all[:n]))
	}
}

// P9.2: leaves of all looks, and such as are alike.
func TestRootOfAnyHashes(t *testing.T) {
	l := kinds()
	isSum(t, "Root of hashes of all looks", leaf.Root(l), grown(l))
	for _, x := range l[:12] {
		same := slices.Repeat([]api.Sum{x}, 40)
		for n := range same {
			isSum(t, "Root of like leaves", leaf.Root(same[:n]), grown(same[:n]))
		}
	}
}

// P9.2, R5: no row is too long.
func TestRootOfManyLeaves(t *testing.T) {
	l := leaves(1<<16 + 1)
	for _, n := range []int{1<<16 - 1, 1 << 16, 1<<16 + 1} {
		isSum(t, "Root of "+strconv.Itoa(n), leaf.Root(l[:n]), grown(l[:n]))
	}
}

// P9.2: each leaf counts, and its place does.
func TestRootHangsOnEachLeaf(t *testing.T) {
	for n := 1; n < 40; n++ {
		l := leaves(n)
		want := leaf.Root(l)
		for i := range l {
			l[i][31] ^= 1
			if leaf.Root(l) == want {
				t.Errorf("Root of %d: the same with another leaf %d", n, i)
			}
			l[i][31] ^= 1
			if i > 0 {
				l[i-1], l[i] = l[i], l[i-1]
				if leaf.Root(l) == want {
					t.Errorf("Root of %d: the same with leaves %d and %d changed over", n, i-1, i)
				}
				l[i-1], l[i] = l[i], l[i-1]
			}
		}
		isSum(t, "Root of what it was", leaf.Root(l), want)
	}
}

// R3, R4: what is handed in stays as it is, what is behind it too; asked again it tells the same.
func TestRootLeavesWhatItIsHanded(t *testing.T) {
	for n := range 40 {
		l := leaves(n + 5)
		root := leaf.Root(l[:n])
		if !slices.Equal(l, leaves(n+5)) {
			t.Fatalf("Root of %d changed what it was handed", n)
		}
		isSum(t, "Root, asked again", leaf.Root(l[:n]), root)
		isSum(t, "Root, without room behind it", leaf.Root(l[:n:n]), root)
		clear(l)
		isSum(t, "Root of the same leaves", leaf.Root(leaves(n)), root)
	}
}
