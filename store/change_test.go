package store_test

import (
	"fmt"
	"math"
	"slices"
	"strings"
	"testing"

	"scrinium/api"
)

// P8.2: each kind of change with names that are none, of a file that there is, and of one that there isn't; and kinds that are none.
func TestNamesAndKinds(t *testing.T) {
	p := pairOf(t, 10, file("a", bytes(300, 1)), []api.FileOp{begin("empty")})
	wrong := []string{"", "A", "a b", "é", "a\x00", "thirteenbytes", strings.Repeat("a", 1<<20)}
	for kind := api.FileMake; kind <= api.FileSet; kind++ {
		for _, name := range wrong {
			p.do(t, fmt.Sprintf("kind %d of %.20q", kind, name), api.ErrArg, api.FileOp{Kind: kind, Name: name, Data: "x"})
			p.do(t, fmt.Sprintf("kind %d of %.20q", kind, name), api.ErrArg, api.FileOp{Kind: kind, Name: name, N: -1})
		}
		want := api.ErrNone
		if kind == api.FileMake {
			want = api.OK
		}
		p.do(t, fmt.Sprint("kind ", kind, " of a file that there isn't"), want, api.FileOp{Kind: kind, Name: "c", Data: "x"})
		if kind == api.FileMake {
			p.do(t, "Drop", api.OK, drop("c"))
		}
	}
	p.do(t, "Trim of none to below 0", api.ErrNone, trim("c", -1))
	p.do(t, "Append of too much to none", api.ErrNone, add("c", bytes(9999, 1)))
	for _, kind := range []int{0, -1, 6, 7, 256 + 1, 1<<32 + 1, math.MinInt, math.MaxInt} {
		for _, name := range append(wrong, "a", "c") {
			p.do(t, fmt.Sprintf("kind %d of %.20q", kind, name), api.ErrArg, api.FileOp{Kind: kind, Name: name, Data: "x"})
		}
	}
	p.do(t, "Make of a file that there is", api.ErrState, begin("a"))
	p.do(t, "Make of an empty file that there is", api.ErrState, begin("empty"))
	p.do(t, "Append", api.OK, add("a", "x"))
	p.do(t, "Trim", api.OK, trim("a", 2))
	p.do(t, "Set", api.OK, set("a", "y"))
	p.do(t, "Drop", api.ErrState, drop("a"))
	p.do(t, "Drop of an empty one", api.OK, drop("empty"))
}

// P8.2: what a kind has no use for is not asked.
func TestWhatAKindDoesNotUse(t *testing.T) {
	p := pairOf(t, 10)
	p.do(t, "Make with bytes", api.OK, api.FileOp{Kind: api.FileMake, Name: "a", Data: bytes(99999, 1), N: -5})
	p.do(t, "Append with a number", api.OK, api.FileOp{Kind: api.FileAppend, Name: "a", Data: "xyz", N: -5})
	p.do(t, "Set with a number", api.OK, api.FileOp{Kind: api.FileSet, Name: "a", Data: "abcd", N: 99})
	p.do(t, "Trim with bytes", api.OK, api.FileOp{Kind: api.FileTrim, Name: "a", Data: bytes(99999, 1), N: 3})
	p.do(t, "Drop with bytes", api.ErrState, api.FileOp{Kind: api.FileDrop, Name: "a", Data: "x"})
	p.do(t, "Trim", api.OK, trim("a", 0))
	p.do(t, "Drop with bytes", api.OK, api.FileOp{Kind: api.FileDrop, Name: "a", Data: bytes(99999, 1), N: -5})
}

// P8.2: names of one byte, of twelve, and of bytes that stand for something elsewhere.
func TestNamesOfFiles(t *testing.T) {
	names := []string{"a", "z", "0", "9", ".", "-", "..", "...", "-a", "twelve-bytes", "0123456789.-", "zzzzzzzzzzzz", "meta", "l00"}
	p := pairOf(t, 30)
	for i, name := range names {
		p.do(t, "a file "+name, api.OK, file(name, bytes(i*40, i))...)
	}
	for _, name := range names {
		p.do(t, "no file "+name, api.OK, trim(name, 0), drop(name))
	}
}

// P8.2: the last file that there may be, and one more.
func TestMostFiles(t *testing.T) {
	p := pairOf(t, 3)
	name := func(i int) string { return fmt.Sprintf("file-%07d", i) }
	for i := range 32 {
		p.do(t, fmt.Sprint("file ", i), api.OK, begin(name(i)))
	}
	p.do(t, "one more", api.ErrFull, begin("one-more"))
	p.do(t, "one of them", api.ErrState, begin(name(7)))
	p.do(t, "one more behind a Drop", api.ErrFull, drop(name(7)), begin("a"), begin("b"))
	p.do(t, "one behind a Drop", api.OK, drop(name(7)), begin("a"))
	p.do(t, "a Drop behind it", api.ErrFull, begin("b"), drop(name(8)))
	var all []api.FileOp
	for i := range 32 {
		if i != 7 {
			all = append(all, drop(name(i)))
		}
	}
	p.do(t, "all are no more", api.OK, append(all, drop("a"))...)
	all = nil
	for i := range 33 {
		all = append(all, begin(name(i)))
	}
	p.do(t, "33 in one call", api.ErrFull, all...)
	p.do(t, "32 in one call", api.OK, all[:32]...)
}

// sizes are those at the edges of sectors.
func sizes() []int { return []int{0, 1, 2, 255, 256, 257, 300, 511, 512, 513, 767, 768, 769, 1280} }

// P8.2: from every size to every other one, by each kind of change, so that bytes fill a sector just, one less and one more.
func TestFromSizeToSize(t *testing.T) {
	p := pairOf(t, 7, file("b", bytes(200, 1)), []api.FileOp{begin("a")})
	for i, from := range sizes() {
		for j, to := range sizes() {
			what := fmt.Sprint(from, " to ", to)
			p.do(t, "Set to "+what, api.OK, set("a", bytes(from, i)))
			p.do(t, "Set from "+what, api.OK, set("a", bytes(to, 99+j)))
			p.do(t, "Set to "+what, api.OK, set("a", bytes(from, i)))
			if to >= from {
				p.do(t, "Append from "+what, api.OK, add("a", bytes(to-from, j)))
			} else {
				p.do(t, "Trim from "+what, api.OK, trim("a", to))
			}
			// What a Trim left of a sector must not come back.
			p.do(t, "Append behind "+what, api.OK, trim("a", min(from, to)), add("a", "\x00z"))
		}
	}
}

// P8.2: Trim to numbers that a file has not.
func TestTrimToWrongNumbers(t *testing.T) {
	for _, size := range sizes() {
		p := pairOf(t, 6, file("a", bytes(size, 1)))
		for _, n := range []int{-1, -2, -256, math.MinInt, size + 1, size + 256, math.MaxInt} {
			p.do(t, fmt.Sprint("Trim to ", n, " of ", size), api.ErrArg, trim("a", n))
		}
		p.do(t, "Trim to the size", api.OK, trim("a", size))
		p.do(t, "Trim to 0", api.OK, trim("a", 0))
		p.do(t, "Trim to 0 again", api.OK, trim("a", 0))
		p.do(t, "Trim to 1", api.ErrArg, trim("a", 1))
	}
}

// P8.2: bytes 0 are bytes as others are.
func TestBytesZero(t *testing.T) {
	p := pairOf(t, 10, file("a", strings.Repeat("\x00", 300)))
	p.do(t, "Append", api.OK, add("a", strings.Repeat("\x00", 300)))
	p.do(t, "Append", api.OK, add("a", "x"))
	p.do(t, "Trim", api.OK, trim("a", 599))
	p.do(t, "Set", api.OK, set("a", strings.Repeat("\x00", 256)))
}

// P8.2: changes of one call that follow each other.
func TestChangesThatFollowEachOther(t *testing.T) {
	x, y, z := bytes(600, 1), bytes(700, 2), bytes(1000, 3)
	for what, ops := range map[string][]api.FileOp{
		"a file comes and goes":            {begin("c"), drop("c")},
		"comes, grows, shrinks and goes":   {begin("c"), add("c", x), trim("c", 30), set("c", y), trim("c", 0), drop("c")},
		"goes and comes":                   {trim("a", 0), drop("a"), begin("a")},
		"goes and comes with other bytes":  {trim("a", 0), drop("a"), begin("a"), add("a", z)},
		"goes and comes with fewer":        {set("a", ""), drop("a"), begin("a"), set("a", "x")},
		"appended twice":                   {add("a", "x"), add("a", "y")},
		"appended over a sector's end":     {add("a", x[:200]), add("a", y[:200]), add("a", z[:200])},
		"trimmed twice":                    {trim("a", 500), trim("a", 300)},
		"trimmed and appended":             {trim("a", 300), add("a", y)},
		"trimmed to a sector and appended": {trim("a", 256), add("a", "x")},
		"trimmed, appended, trimmed":       {trim("a", 300), add("a", y), trim("a", 301)},
		"trimmed below what was appended":  {add("a", y), trim("a", 590)},
		"appended and trimmed back":        {add("a", y), trim("a", 600)},
		"appended and trimmed above that":  {add("a", y), trim("a", 601)},
		"set and trimmed":                  {set("a", y), trim("a", 257)},
		"set and appended":                 {set("a", y[:1]), add("a", x)},
		"set to nothing and back":          {set("a", ""), set("a", bytes(600, 7))},
		"set to what it has":               {set("a", bytes(600, 7))},
		"set to what it has, and more":     {set("a", bytes(600, 7)+"x")},
		"trimmed, and the same again":      {trim("a", 300), add("a", bytes(600, 7)[300:])},
		"the one takes the other's":        {trim("a", 0), add("b", z)},
		"both take the other's":            {trim("a", 10), add("b", z), trim("b", 30), add("a", z)},
		"both change places":               {set("a", bytes(400, 8)), set("b", bytes(600, 7))},
		"one's name is the other's":        {trim("a", 0), drop("a"), begin("c"), add("c", bytes(600, 7))},
		"several files":                    {begin("c"), add("a", "x"), begin("d"), add("c", y), add("b", "z"), add("d", x), trim("a", 1)},
		"all go":                           {trim("b", 0), trim("a", 0), drop("b"), drop("a")},
		"nothing changes":                  {add("a", ""), trim("b", 400)},
	} {
		p := pairOf(t, 12, file("a", bytes(600, 7)), file("b", bytes(400, 8)))
		p.do(t, what, api.OK, ops...)
		p.do(t, what+", then all others", api.OK, others(p.m)...)
		p.do(t, what+", then nothing", api.OK)
	}
}

// P8.2: with an error at each place none of the changes is done; and the first one's error is told.
func TestErrorsAmongChanges(t *testing.T) {
	right := []api.FileOp{begin("c"), add("a", bytes(300, 3)), set("b", "b"), trim("a", 5), trim("b", 0), drop("b")}
	wrong := map[api.Errno][]api.FileOp{
		api.ErrArg:   {begin("C"), trim("a", -1), {Kind: 9, Name: "a"}, trim("a", 1<<40)},
		api.ErrNone:  {add("d", "x"), set("d", "x"), trim("d", 0), drop("d")},
		api.ErrState: {begin("a"), drop("a")},
		api.ErrFull:  {add("a", bytes(50*256, 1)), set("a", bytes(51*256, 1))},
		api.ErrSize:  {add("a", bytes(41*256, 1)), set("a", bytes(41*256, 1))},
	}
	p := pairOf(t, 50, file("a", bytes(600, 7)), file("b", bytes(400, 8)))
	for want, all := range wrong {
		for i, op := range all {
			for at := range len(right) + 1 {
				what := fmt.Sprint("error ", int(want), ", ", i, ", at ", at)
				p.do(t, what, want, slices.Insert(slices.Clone(right), at, op)...)
				p.do(t, what+", with another one behind it", want, slices.Insert(slices.Clone(right), at, op, begin("a"), drop("nobody"), begin(""))...)
			}
		}
	}
	p.do(t, "without one", api.OK, right...)
}

// P8.2: no changes at all, and changes by which nothing is another thing: nothing is asked of the disk.
func TestNoChanges(t *testing.T) {
	p := pairOf(t, 10, file("a", bytes(300, 1)))
	p.d.Arm(0)
	for what, ops := range map[string][]api.FileOp{
		"nil":               nil,
		"none":              {},
		"Append of nothing": {add("a", "")},
		"Trim to the size":  {trim("a", 300)},
		"Make and Drop":     {begin("b"), drop("b")},
		"there and back":    {add("a", bytes(300, 2)), trim("a", 300)},
	} {
		steps := p.d.Steps()
		isErr(t, what, p.s.Do(ops...), api.OK)
		if !p.d.On() || p.d.Steps() != steps {
			t.Errorf("%s: a step was done", what)
		}
	}
	p.m.holds(t, "behind nothing", p.d, p.s)
}

// R3: what was handed in stays as it is, and may be changed behind the call; what was told may be, too.
func TestChangesAreTheirOwners(t *testing.T) {
	p := pairOf(t, 10)
	ops := append(make([]api.FileOp, 0, 9), begin("a"), add("a", "xyz"), begin("b"))
	before := slices.Clone(ops[:9])
	isErr(t, "Do", p.s.Do(ops...), api.OK)
	if !slices.Equal(ops[:9], before) {
		t.Error("Do changed what it was handed")
	}
	clear(ops[:9])
	names := p.s.Names()
	clear(names[:cap(names)])
	m := model{10, map[string]string{"a": "xyz", "b": ""}}
	m.holds(t, "behind changes of what was handed in", p.d, p.s)
}

// R5: bytes and rows of changes of any length.
func TestLongChanges(t *testing.T) {
	d, s := made(t, 500)
	isErr(t, "Do", s.Do(file("a", "x")...), api.OK)
	long := strings.Repeat("x", 1<<28)
	isErr(t, "Append", s.Do(add("a", long)), api.ErrFull)
	isErr(t, "Set", s.Do(set("a", long)), api.ErrFull)
	var ops []api.FileOp
	for range 50000 {
		ops = append(ops, set("a", "xyz"), add("a", "abcdef"), trim("a", 4), begin("b"), drop("b"))
	}
	isErr(t, "many", s.Do(ops...), api.OK)
	m := model{500, map[string]string{"a": "xyza"}}
	m.holds(t, "behind many", d, s)
	isErr(t, "many, and one that can't be", s.Do(append(ops, begin("a"))...), api.ErrState)
	m.holds(t, "behind one that can't be", d, s)
}
