package redo_test

import (
	"fmt"
	"math"
	"slices"
	"strings"
	"testing"

	"scrinium/api"
	"scrinium/redo"
)

const mostHeadSeq = 1 << 39

// found is what Scan tells.
type found struct {
	place, seq int
	all        [][]api.Put
	is         bool
}

// String tells it without the bytes of whole sectors.
func (f found) String() string {
	var b strings.Builder
	fmt.Fprint(&b, f.place, " ", f.seq, " ", f.is)
	for _, puts := range f.all {
		b.WriteString(" [")
		for _, p := range puts {
			fmt.Fprintf(&b, " %d:%.4q", p.At, p.S)
		}
		b.WriteString(" ]")
	}
	return b.String()
}

func scan(region []string) found {
	place, seq, all, is := redo.Scan(region)
	return found{place, seq, all, is}
}

func isFound(t *testing.T, what string, region []string, want found) {
	t.Helper()
	before := slices.Clone(region)
	got := scan(region)
	same := slices.EqualFunc(got.all, want.all, func(a, b []api.Put) bool { return slices.Equal(a, b) })
	if got.place != want.place || got.seq != want.seq || got.is != want.is || !same {
		t.Errorf("%s: %v, want %v", what, got, want)
	}
	if !slices.Equal(region, before) { // R3
		t.Errorf("%s: Scan changed the region", what)
	}
}

func isNothing(t *testing.T, what string, region []string) {
	t.Helper()
	isFound(t, what, region, found{})
}

// regionOf is a head and slots of which none is a line.
func regionOf(place, seq, slots int) []string {
	region := []string{redo.Head(place, seq)}
	for i := range slots {
		region = append(region, full(byte('A'+i%26)))
	}
	return region
}

// writes are n writes, unlike those of another seq.
func writes(seq, n int) []api.Put {
	puts := make([]api.Put, n)
	for i := range puts {
		puts[i] = api.Put{At: (seq*100 + i) % 65536, S: full(byte(seq*7 + i))}
	}
	return puts
}

func sectorsOf(puts []api.Put) []int {
	var at []int
	for _, p := range puts {
		at = append(at, p.At)
	}
	return at
}

// lay lays a transaction into a region's slots, and tells the place behind it.
func lay(region []string, place, seq int, puts []api.Put) int {
	slots := region[1:]
	put := func(s string) {
		slots[place%len(slots)] = s
		place++
	}
	put(redo.First(seq, sectorsOf(puts)))
	for _, p := range puts {
		put(p.S)
	}
	put(redo.Last(seq, len(puts)))
	return place % len(slots)
}

// layAll lays transactions of those sizes one behind the other, and tells what is to be found.
func layAll(region []string, place, seq int, sizes ...int) found {
	var all [][]api.Put
	for _, n := range sizes {
		puts := writes(seq, n)
		place = lay(region, place, seq, puts)
		all = append(all, puts)
		seq++
	}
	return found{place, seq, all, true}
}

// P7.2: fewer than 4 sectors.
func TestScanOfShortRegions(t *testing.T) {
	isNothing(t, "nil", nil)
	isNothing(t, "empty", []string{})
	for slots := range 3 {
		isNothing(t, "short", regionOf(0, 1, slots))
	}
	isFound(t, "of 4", regionOf(0, 1, 3), found{0, 1, nil, true})
}

// P7.2: the head's place and seq at both ends.
func TestScanOfHeads(t *testing.T) {
	for _, slots := range []int{3, 4, 7, 60, 255, 256} {
		for place, is := range map[int]bool{
			0: true, 1: true, slots - 1: true, slots: false, slots + 1: false, lastSector: false,
		} {
			for seq, ok := range map[int]bool{
				0: false, 1: true, 2: true, 1 << 32: true, mostHeadSeq - 1: true, mostHeadSeq: true, mostHeadSeq + 1: false, mostSeq: false,
			} {
				want := found{}
				if is && ok {
					want = found{place, seq, nil, true}
				}
				isFound(t, fmt.Sprint("head ", place, " ", seq, " of ", slots), regionOf(place, seq, slots), want)
			}
		}
	}
}

// P7.2: what is no head at all.
func TestScanOfNoHead(t *testing.T) {
	head := redo.Head(1, 5)
	turned := []byte(head)
	turned[6] ^= 1
	behind := []byte(head)
	behind[255] = 1
	for what, s := range map[string]string{
		"nothing":                "",
		"bytes 0":                full(0),
		"other bytes":            full('x'),
		"a first line":           redo.First(1, []int{5}),
		"a last line":            redo.Last(1, 5),
		"a head cut off":         head[:255],
		"a head and more":        head + "\x00",
		"a turned head":          string(turned),
		"bytes behind it":        string(behind),
		"a head without numbers": lineOf("SCH"),
		"a head without a seq":   lineOf("SCH" + num(1)),
		"a number too many":      lineOf("SCH" + num(1) + num(5) + num(0)),
		"a mark cut off":         lineOf("SC" + num(1) + num(5)),
		"another mark":           lineOf("sch" + num(1) + num(5)),
		"a byte ahead":           lineOf(" SCH" + num(1) + num(5)),
		"a place in another way": lineOf("SCH\x02\x00\x01" + num(5)),
		"a seq of all bits":      lineOf("SCH" + num(1) + "\x08" + strings.Repeat("\xff", 8)),
		"a place of all bits":    lineOf("SCH\x08" + strings.Repeat("\xff", 8) + num(5)),
		"an unsealed head":       "\x01\x07SCH\x01\x01\x01\x05" + strings.Repeat("\x00", 256-9),
	} {
		region := regionOf(1, 5, 6)
		lay(region, 1, 5, writes(5, 2))
		region[0] = s
		isNothing(t, what, region)
		region[1] = head // a head is the first sector alone
		isNothing(t, what+", a head behind it", region)
	}
	region := regionOf(1, 5, 6)
	region[0] = lineOf("SCH" + num(1) + num(5))
	isFound(t, "the head by hand", region, found{1, 5, nil, true})
}

// P7.2: every row of transactions that has room, from every place on, in small regions: round behind the last slot, and all slots filled.
func TestScanOfRows(t *testing.T) {
	for slots := 3; slots <= 10; slots++ {
		for place := range slots {
			for _, sizes := range rows(slots) {
				region := regionOf(place, 9, slots)
				want := layAll(region, place, 9, sizes...)
				isFound(t, fmt.Sprint(sizes, " from ", place, " of ", slots), region, want)
			}
		}
	}
}

// rows are all rows of transactions' sizes that need no more slots than there are.
func rows(slots int) [][]int {
	all := [][]int{nil}
	for n := 1; n+2 <= slots; n++ {
		for _, rest := range rows(slots - n - 2) {
			all = append(all, append([]int{n}, rest...))
		}
	}
	return all
}

// P7.2: as many writes as there may be; the chapter's limits of seqs behind the head's.
func TestScanAtTheLimits(t *testing.T) {
	region := regionOf(3, mostHeadSeq, 200)
	isFound(t, "60 writes each", region, layAll(region, 3, mostHeadSeq, 60, 1, 60))
	region = regionOf(61, 1, 62)
	isFound(t, "60 writes in 62 slots", region, layAll(region, 61, 1, 60))
	region = regionOf(0, 1, 70000)
	isFound(t, "of more slots than a disk has", region, layAll(region, 0, 1, slices.Repeat([]int{60}, 1129)...))
}

// firstOf is a first line by hand, so that it may be of any numbers.
func firstOf(numbers ...int) string {
	text := "SCD"
	for _, n := range numbers {
		text += num(n)
	}
	return lineOf(text)
}

// P7.2: the second transaction of three is none: the first one alone is told.
func TestScanOfWhatIsNoTransaction(t *testing.T) {
	first := func(s string) map[int]string { return map[int]string{3: s} }
	last := func(s string) map[int]string { return map[int]string{6: s} }
	turned := []byte(redo.Last(6, 2))
	turned[250] = 1
	for what, c := range map[string]map[int]string{
		"no first line":             first(full(0)),
		"a first line that is none": first("SCD"),
		"a seq one less":            {3: redo.First(5, []int{1, 2}), 6: redo.Last(5, 2)},
		"a seq one more":            {3: redo.First(7, []int{1, 2}), 6: redo.Last(7, 2)},
		"a first line's seq":        first(redo.First(7, []int{1, 2})),
		"a last line's seq":         last(redo.Last(7, 2)),
		"no write":                  {3: redo.First(6, nil), 4: redo.Last(6, 0)},
		"no write, a last line far": first(redo.First(6, nil)),
		"one write less":            first(redo.First(6, []int{1})),
		"one write more":            first(redo.First(6, []int{1, 2, 3})),
		"a last line of one less":   last(redo.Last(6, 1)),
		"a last line of one more":   last(redo.Last(6, 3)),
		"no last line":              last(full(0)),
		"a first line at its end":   last(redo.First(6, []int{1, 2})),
		"a last line that is none":  last(string(turned)),
		"a last line and a number":  last(lineOf("SCC" + num(6) + num(2) + num(0))),
		"a head at its end":         last(redo.Head(6, 2)),
		"a last line first":         first(redo.Last(6, 2)),
		"a head first":              first(redo.Head(6, 2)),
		"a number missing":          first(firstOf(6, 2, 1)),
		"a number too many":         first(firstOf(6, 2, 1, 2, 3)),
		"no sector's number":        first(firstOf(6, 2, 1, 65536)),
		"a number of 63 bits":       first(firstOf(6, 2, math.MaxInt, 1)),
		"a count of 63 bits":        first(firstOf(6, math.MaxInt, 1, 2)),
		"a seq of 63 bits":          first(firstOf(math.MaxInt, 2, 1, 2)),
	} {
		region := regionOf(0, 5, 20)
		all := layAll(region, 0, 5, 1, 2, 3)
		isFound(t, "ahead of: "+what, region, all)
		for slot, s := range c {
			region[1+slot] = s
		}
		isFound(t, what, region, found{3, 6, all.all[:1], true})
	}
}

// P7.2: too many writes, and exactly as many as may be, with all else right.
func TestScanOfTooManyWrites(t *testing.T) {
	for n := 58; n < 64; n++ {
		region := regionOf(0, 1, 100)
		numbers := []int{1, n}
		var puts []api.Put
		for i := range n {
			numbers = append(numbers, i%200)
			puts = append(puts, api.Put{At: i % 200, S: region[2+i]})
		}
		region[1] = firstOf(numbers...)
		region[1+n+1] = redo.Last(1, n)
		want := found{0, 1, nil, true}
		if n <= 60 {
			want = found{n + 2, 2, [][]api.Put{puts}, true}
		}
		isFound(t, fmt.Sprint(n, " writes"), region, want)
	}
}

// P7.2: cut off behind each of its slots, the transaction is not told, whatever lies in the others.
func TestScanOfCutOff(t *testing.T) {
	for place := range 9 {
		for n := 1; n <= 7; n++ {
			for lost := range n + 2 {
				region := regionOf(place, 4, 9)
				want := layAll(region, place, 4, n)
				for i := lost; i < n+2; i++ {
					region[1+(place+i)%9] = full(0)
				}
				want.place, want.seq, want.all = place, 4, nil
				isFound(t, fmt.Sprint(n, " writes cut off behind ", lost), region, want)
			}
		}
	}
}

// P7.2: a transaction may have more slots than are left, and lie over those told ahead of it: it is not told. Slots of bytes that look like lines make such ones.
func TestScanGoesNotRoundIntoItself(t *testing.T) {
	region := regionOf(0, 1, 4)
	region[1] = redo.First(1, []int{9})
	region[2] = redo.Last(2, 1) // the first one's bytes, the second one's last line
	region[3] = redo.Last(1, 1)
	region[4] = redo.First(2, []int{8})
	one := [][]api.Put{{{At: 9, S: region[2]}}}
	isFound(t, "two in 4 slots", region, found{3, 2, one, true})

	region = regionOf(0, 1, 3)
	region[1] = redo.First(1, []int{7, 8})
	region[2] = redo.Last(1, 2)
	region[3] = full('q')
	isFound(t, "4 slots in 3", region, found{0, 1, nil, true})
	region[1] = redo.First(1, []int{7, 8, 9, 10}) // its last line would be the slot behind its first one again
	region[3] = redo.Last(1, 4)
	isFound(t, "6 slots in 3", region, found{0, 1, nil, true})

	region = regionOf(2, 1, 3)
	all := layAll(region, 2, 1, 1)
	isFound(t, "3 slots in 3", region, all)
}

// P7.2: what was left of an elder transaction counts where its seq is the next one's, and only there.
func TestScanOfElderOnes(t *testing.T) {
	region := regionOf(0, 3, 12)
	lay(region, 3, 7, writes(7, 1))
	lay(region, 6, 5, writes(5, 1))
	all := layAll(region, 0, 3, 1)
	isFound(t, "another seq behind", region, all)
	lay(region, 3, 4, writes(4, 1))
	all.all = append(all.all, writes(4, 1), writes(5, 1))
	isFound(t, "the seqs in between", region, found{9, 6, all.all, true})
}

// P7.2: bytes that look like lines are but bytes.
func TestScanOfLinesAsBytes(t *testing.T) {
	region := regionOf(2, 5, 9)
	puts := []api.Put{
		{At: 1, S: redo.Last(5, 1)}, {At: 1, S: redo.First(6, []int{1})}, {At: 0, S: redo.Head(0, 1)}, {At: lastSector, S: full(0)},
	}
	place := lay(region, 2, 5, puts)
	isFound(t, "lines as bytes", region, found{place, 6, [][]api.Put{puts}, true})
}

// P1, R5: regions of texts of any length.
func TestScanOfOddSectors(t *testing.T) {
	for _, s := range []string{"", "\x00", "SCH", full('x')[1:], full('x') + "x", strings.Repeat("\x01", 1<<20)} {
		isNothing(t, "odd sectors", slices.Repeat([]string{s}, 8))
		region := regionOf(0, 1, 8)
		for i := range 8 {
			region[1+i] = s
		}
		isFound(t, "odd slots", region, found{0, 1, nil, true})
	}
}

// R3: what is told is its owner's, and no two lists of it share memory.
func TestFoundIsItsOwners(t *testing.T) {
	region := regionOf(0, 1, 20)
	want := layAll(region, 0, 1, 2, 3, 1)
	first := scan(region)
	second := scan(region)
	for i, puts := range first.all {
		first.all[i] = append(puts, api.Put{At: 99, S: "z"})
		for j := range puts {
			puts[j] = api.Put{}
		}
	}
	isFound(t, "behind a change of what was told", region, want)
	for i := range want.all {
		if !slices.Equal(second.all[i], want.all[i]) {
			t.Errorf("two answers share memory: %v", second)
		}
	}
	copied := slices.Clone(region)
	third := scan(copied)
	clear(copied)
	for i := range want.all {
		if !slices.Equal(third.all[i], want.all[i]) {
			t.Errorf("an answer changed with the region: %v", third)
		}
	}
}

// P7.2, of any lines: what is told, laid again, is there; and the next one is none.
func checkScan(t *testing.T, region []string) {
	t.Helper()
	f := scan(region)
	if !f.is {
		isNothing(t, "nothing", region)
		return
	}
	slots, used := len(region)-1, 0
	for _, puts := range f.all {
		used += len(puts) + 2
	}
	if used > slots {
		t.Errorf("%d slots of %d are told", used, slots)
	}
	again := slices.Clone(region)
	place, seq := ((f.place-used)%slots+slots)%slots, f.seq-len(f.all)
	if region[0] != redo.Head(place, seq) {
		t.Errorf("%v: the head is another one", f)
	}
	for i, puts := range f.all {
		place = lay(again, place, seq+i, puts)
	}
	if place != f.place || !slices.Equal(again, region) {
		t.Errorf("%v does not lie there", f)
	}
	slot := func(i int) string { return region[1+(f.place+i)%slots] }
	for n := 1; n <= 60 && used+n+2 <= slots; n++ {
		if strings.HasPrefix(slot(0)[2:], "SCD"+num(f.seq)+num(n)) && slot(n+1) == redo.Last(f.seq, n) {
			t.Errorf("%v: the next one, of %d writes, lies there too", f, n)
		}
	}
}

func FuzzScan(f *testing.F) {
	f.Add([]byte{3, 0, 1, 2, 5})
	f.Add([]byte{5, 4, 1, 1, 1, 2, 2, 3})
	f.Add([]byte{8, 7, 1, 3, 1, 0, 2, 1, 0, 6})
	f.Fuzz(func(t *testing.T, b []byte) {
		if len(b) < 3 {
			return
		}
		region := regionOf(int(b[1]%16), int(b[2]%4), 1+int(b[0]%16))
		for i, c := range b[3:] {
			region[1+i%(len(region)-1)] = pieceOf(int(c))
		}
		checkScan(t, region)
	})
}

// pieceOf is one of some lines of low numbers, or bytes.
func pieceOf(c int) string {
	switch seq := 1 + c/4%4; c % 4 {
	case 0:
		return redo.First(seq, make([]int, c/16%4))
	case 1:
		return redo.Last(seq, c/16%4)
	case 2:
		return redo.Head(c/16%4, seq)
	}
	return full(byte(c))
}

// P7.2: all small regions of lines of low numbers.
func TestScanOfAllSmallRegions(t *testing.T) {
	pieces := []string{full(0)}
	for seq := 1; seq <= 2; seq++ {
		pieces = append(pieces, redo.First(seq, []int{7}), redo.First(seq, []int{7, 8}), redo.Last(seq, 1), redo.Last(seq, 2))
	}
	for place := range 4 {
		region := regionOf(place, 1, 4)
		var fill func(slot int)
		fill = func(slot int) {
			if slot > 4 {
				checkScan(t, region)
				return
			}
			for _, s := range pieces {
				region[slot] = s
				fill(slot + 1)
			}
		}
		fill(1)
	}
}
