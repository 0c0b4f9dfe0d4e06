package store_test

import (
	"fmt"
	"testing"

	"scrinium/api"
)

// limitCase is a call on a store with the files a, b and c, of so many sectors that as many are free as are to be.
type limitCase struct {
	what string
	want api.Errno
	ops  []api.FileOp
}

func (c limitCase) run(t *testing.T, p *pair) {
	t.Helper()
	p.do(t, c.what, c.want, c.ops...)
}

// P8.2: as many sectors touched as may be, and one more. A sector of a file counts once, however often it is touched.
func TestTouched(t *testing.T) {
	n := func(sectors, seed int) string { return bytes(sectors*256, seed) }
	ones := func(name string, n int) (ops []api.FileOp) {
		for i := range n {
			ops = append(ops, add(name, bytes(1, i)))
		}
		return ops
	}
	for _, c := range []limitCase{
		{"Append of 40 sectors", api.OK, []api.FileOp{add("e", n(40, 1))}},
		{"Append of 40 sectors and a byte", api.ErrSize, []api.FileOp{add("e", n(40, 1)+"x")}},
		{"Append of 40 sectors into a part of one", api.ErrSize, []api.FileOp{add("p", n(40, 1))}},
		{"Append of 39 sectors and a rest", api.OK, []api.FileOp{add("p", n(40, 1)[:40*256-100])}},
		{"one byte more", api.ErrSize, []api.FileOp{add("p", n(40, 1)[:40*256-99])}},
		{"Append behind a whole one", api.OK, []api.FileOp{add("w", n(40, 1))}},
		{"Trim of 40 sectors", api.OK, []api.FileOp{trim("a", 5*256)}},
		{"Trim of 40 sectors and a byte", api.ErrSize, []api.FileOp{trim("a", 5*256-1)}},
		{"Trim into the 40th sector", api.OK, []api.FileOp{trim("a", 5*256+1)}},
		{"Trim of all 45", api.ErrSize, []api.FileOp{trim("a", 0)}},
		{"Set of 40", api.OK, []api.FileOp{set("b", n(40, 1))}},
		{"Set of 41", api.ErrSize, []api.FileOp{set("b", n(41, 1))}},
		{"Set of 40 and a byte", api.ErrSize, []api.FileOp{set("b", n(40, 1)+"x")}},
		{"Set of 45 to nothing", api.ErrSize, []api.FileOp{set("a", "")}},
		{"Set of 45 to one byte", api.ErrSize, []api.FileOp{set("a", "x")}},
		{"Set of 40 to nothing", api.OK, []api.FileOp{set("b", "")}},
		{"Set of none to 40", api.OK, []api.FileOp{set("e", n(40, 1))}},
		{"Set of none to 41", api.ErrSize, []api.FileOp{set("e", n(41, 1))}},
		{"20 and 20", api.OK, []api.FileOp{add("e", n(20, 1)), add("w", n(20, 2))}},
		{"20 and 21", api.ErrSize, []api.FileOp{add("e", n(20, 1)), add("w", n(21, 2))}},
		{"21 and 20, then what would be none", api.ErrSize, []api.FileOp{add("e", n(21, 1)), add("w", n(20, 2)), begin("e")}},
		{"each kind, 40 together", api.OK, []api.FileOp{add("e", n(5, 1)), trim("a", 30*256), add("w", "x"), set("p", n(19, 2)), begin("x"), trim("e", 5*256)}},
		{"each kind, 41 together", api.ErrSize, []api.FileOp{add("e", n(5, 1)), trim("a", 30*256), add("w", "x"), set("p", n(19, 2)), begin("x"), add("x", "x")}},
		{"40 and changes that touch none", api.OK, []api.FileOp{add("e", n(40, 1)), add("p", ""), trim("a", 45*256), begin("x"), set("x", ""), drop("x")}},
		{"one sector 100 times", api.OK, ones("e", 100)},
		{"two sectors 300 times", api.OK, ones("e", 300)},
		{"one sector again, of 40", api.OK, append(ones("p", 100), add("e", n(39, 1)), add("p", "x"), trim("p", 4), set("p", "x"))},
		{"40 there and back", api.OK, []api.FileOp{add("e", n(40, 1)), trim("e", 0), add("e", n(40, 2)), set("e", n(40, 3))}},
		{"40 and others behind them", api.ErrSize, []api.FileOp{add("e", n(40, 1)), trim("e", 0), add("w", "x")}},
		{"40 and a byte of a new file", api.ErrSize, []api.FileOp{add("e", n(40, 1)), begin("x"), set("x", "x")}},
		{"40 and a byte that goes", api.ErrSize, []api.FileOp{add("e", n(40, 1)), trim("p", 99)}},
		{"40 and a byte that goes by Set", api.ErrSize, []api.FileOp{add("e", n(40, 1)), set("o", "")}},
		{"40 and a sector's last byte", api.ErrSize, []api.FileOp{add("e", n(40, 1)), trim("w", 255)}},
		{"the same places of two files", api.ErrSize, []api.FileOp{add("e", n(40, 1)), begin("x"), add("x", "x")}},
		{"40 of one that comes again", api.OK, []api.FileOp{trim("b", 0), drop("b"), begin("b"), add("b", n(40, 1))}},
		{"21 in place of 20 given back", api.OK, []api.FileOp{trim("b", 20*256), add("b", n(21, 1))}},
		{"41 in place of 20 given back", api.ErrSize, []api.FileOp{trim("b", 20*256), add("b", n(41, 1))}},
		{"those given back, by another one", api.OK, []api.FileOp{trim("b", 20*256), add("e", n(20, 1))}},
		{"one more by another one", api.ErrSize, []api.FileOp{trim("b", 20*256), add("e", n(20, 1)+"x")}},
	} {
		p := pairOf(t, 200, file("a", n(40, 1)), []api.FileOp{add("a", n(5, 2))}, file("b", n(40, 3)), file("p", bytes(100, 4)), file("w", n(1, 5)), file("o", "x"), []api.FileOp{begin("e")})
		c.run(t, p)
	}
}

// P8.2: each number of sectors touched around the limit, of each kind, from a place in a sector and from its edge.
func TestTouchedByEachKind(t *testing.T) {
	for _, ahead := range []int{0, 1, 255} {
		for n := 38; n <= 42; n++ {
			for _, rest := range []int{-1, 0, 1} {
				size := n*256 + rest
				touched := (size + 255) / 256
				want := api.OK
				if touched > 40 {
					want = api.ErrSize
				}
				what := fmt.Sprint(size, " bytes behind ", ahead)
				p := pairOf(t, 100, file("a", bytes(ahead, 1)))
				p.do(t, "Append up to "+what, want, add("a", bytes(size-ahead, 2)))
				p.do(t, "Set of "+what, want, set("a", bytes(size, 3)))
				p.do(t, "a new one of "+what, want, file("b", bytes(size, 4))...)
				p = pairOf(t, 100, file("a", bytes(ahead, 1)), []api.FileOp{add("a", bytes(20*256, 2))}, []api.FileOp{add("a", bytes(size-ahead-20*256, 2))})
				p.do(t, "Trim of "+what, want, trim("a", ahead))
			}
		}
	}
}

// P8.2: as many sectors as are free, and one more. What changes ahead gave back is free; what those behind give back is not.
func TestFree(t *testing.T) {
	n := func(sectors, seed int) string { return bytes(sectors*256, seed) }
	// a has 4 sectors, p a byte in one, e none; 3 of 8 are free.
	for _, c := range []limitCase{
		{"Append of 3", api.OK, []api.FileOp{add("a", n(3, 1))}},
		{"Append of 3 and a byte", api.ErrFull, []api.FileOp{add("a", n(3, 1)+"x")}},
		{"Append into a part of one", api.OK, []api.FileOp{add("p", n(4, 1)[1:])}},
		{"a byte more", api.ErrFull, []api.FileOp{add("p", n(4, 1))}},
		{"Set of what it has, and 3", api.OK, []api.FileOp{set("a", n(7, 1))}},
		{"Set of one more", api.ErrFull, []api.FileOp{set("a", n(7, 1)+"x")}},
		{"Set of none to 3", api.OK, []api.FileOp{set("e", n(3, 1))}},
		{"Set of none to 4", api.ErrFull, []api.FileOp{set("e", n(4, 1))}},
		{"two files", api.OK, []api.FileOp{add("e", n(1, 1)), add("a", n(2, 2))}},
		{"two files, one more", api.ErrFull, []api.FileOp{add("e", n(1, 1)), add("a", n(3, 2))}},
		{"a new file, one more", api.ErrFull, []api.FileOp{begin("x"), add("x", n(3, 1)), begin("y"), add("y", "y")}},
		{"what was given back ahead", api.OK, []api.FileOp{trim("a", 2*256), add("e", n(5, 1))}},
		{"one more than that", api.ErrFull, []api.FileOp{trim("a", 2*256), add("e", n(5, 1)+"x")}},
		{"a part of a sector is not given back", api.ErrFull, []api.FileOp{trim("a", 2*256+1), add("e", n(5, 1))}},
		{"given back by Set", api.OK, []api.FileOp{set("a", ""), add("e", n(7, 1))}},
		{"given back behind", api.ErrFull, []api.FileOp{add("e", n(5, 1)), trim("a", 0)}},
		{"given back and taken by itself", api.OK, []api.FileOp{trim("a", 1), add("a", n(7, 1)[1:])}},
		{"given back twice", api.ErrFull, []api.FileOp{trim("a", 0), add("e", n(4, 1)), trim("a", 0), add("e", n(4, 1))}},
		{"round and round", api.OK, []api.FileOp{trim("a", 0), add("e", n(7, 1)), set("e", "x"), add("a", n(6, 2)), set("a", ""), set("p", n(7, 3))}},
		{"of a file that went", api.OK, []api.FileOp{trim("a", 0), drop("a"), begin("x"), add("x", n(7, 1))}},
		{"all of it", api.OK, []api.FileOp{trim("a", 0), trim("p", 0), add("e", n(8, 1))}},
		{"more than all of it", api.ErrFull, []api.FileOp{trim("a", 0), trim("p", 0), add("e", n(8, 1)+"x")}},
		{"far more than all of it", api.ErrFull, []api.FileOp{add("e", n(600, 1))}}, // ErrSize is named behind it
	} {
		p := pairOf(t, 8, file("a", n(4, 9)), file("p", "x"), []api.FileOp{begin("e")})
		c.run(t, p)
	}
}

// P8.2: ErrFull is named ahead of ErrSize; of one change behind the other the first one's error is told.
func TestFullAheadOfSize(t *testing.T) {
	big := bytes(60*256, 1)
	p := pairOf(t, 50, file("a", "x"))
	p.do(t, "too many for both", api.ErrFull, add("a", big))
	p.do(t, "for the limit alone", api.ErrSize, add("a", big[:45*256]))
	p.do(t, "the limit first", api.ErrSize, add("a", big[:45*256]), set("a", big))
	p.do(t, "room first", api.ErrFull, set("a", big), add("a", big[:45*256]))
}

// P8.2: a disk that is filled up to its last sector, and emptied again, of every size that there may be.
func TestFilledUp(t *testing.T) {
	for _, room := range []int{1, 2, 39, 40, 41, 80, 499, 500} {
		p := pairOf(t, room, []api.FileOp{begin("a")})
		for p.m.free() > 0 {
			p.do(t, "fill", api.OK, add("a", bytes(min(p.m.free(), 40)*256, p.m.free())))
		}
		p.do(t, "one byte more", api.ErrFull, add("a", "x"))
		for size := len(p.m.files["a"]); size > 0; size = max(0, size-40*256) {
			p.do(t, "empty", api.OK, trim("a", max(0, size-40*256)))
		}
	}
}

// The directory has room for as many files as there may be, with the longest names, whose sectors all lie apart; and a call that touches as many sectors as it may, and moves all of the directory, has room in the journal.
func TestMostScattered(t *testing.T) {
	p := pairOf(t, 500)
	name := func(i int) string { return fmt.Sprintf("%012d", i) }
	var all []api.FileOp
	for i := range 32 {
		all = append(all, begin(name(i)))
	}
	isErr(t, "Make of 32", p.s.Do(all...), api.OK)
	p.m, _ = p.m.do(all...)
	all = nil
	for i := range 499 {
		all = append(all, add(name(i%32), bytes(256, i)))
		if len(all) == 31 || i == 498 {
			isErr(t, "Append", p.s.Do(all...), api.OK)
			p.m, _ = p.m.do(all...)
			all = nil
		}
	}
	p.do(t, "the last one", api.OK, add(name(3), "x"))
	p.do(t, "one more", api.ErrFull, add(name(7), "x"))
	for i := range 16 {
		all = append(all, trim(name(2*i), 14*256))
	}
	p.do(t, "some go", api.OK, all...)
	all = []api.FileOp{trim(name(0), 11*256-100)}
	for i := range 31 {
		all = append(all, set(name(i+1), p.m.files[name(i+1)][:1*256-i]))
	}
	p.do(t, "too many", api.ErrSize, all...)
	p.do(t, "as many as may be", api.OK, set(name(0), bytes(16*256, 1)), trim(name(1), 0), trim(name(3), 9*256+1), drop(name(1)), begin("a"))
	for i := range 3 {
		p.do(t, "again", api.OK, set(name(5), bytes((16-i)*256, i)), set(name(31), bytes((i+1)*256+i, i)), trim(name(7+2*i), 8*256))
	}
}
