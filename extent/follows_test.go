package extent_test

import (
	"math/rand"
	"slices"
	"strconv"
	"testing"

	"scrinium/api"
	"scrinium/extent"
)

// orders calls f with n numbers in all their orders.
func orders(n int, f func(order []int)) {
	order := []int{}
	var more func()
	more = func() {
		if len(order) == n {
			f(order)
		}
		for i := range n {
			if !slices.Contains(order, i) {
				order = append(order, i)
				more()
				order = order[:len(order)-1]
			}
		}
	}
	more()
}

// givenBack fails if pieces, given in an order, don't make a list of another.
func givenBack(t *testing.T, left, pieces []api.Run, order []int, want []api.Run) {
	t.Helper()
	now := left
	for _, i := range order {
		next, ok := extent.Give(now, pieces[i])
		if !ok {
			t.Fatalf("Give(%v, %v): false", now, pieces[i])
		}
		now = next
	}
	isRuns(t, "given back", now, want)
}

// single are runs of one sector each.
func single(l []api.Run) []api.Run {
	var all []api.Run
	for _, at := range extent.All(l) {
		all = append(all, api.Run{At: at, N: 1})
	}
	return all
}

// P6.4: what is taken was free, is so no more, and given back in all orders, as runs or one by one, leaves all as it was.
func TestTakenAndGivenBack(t *testing.T) {
	for _, l := range [][]api.Run{
		runs(0, 1), runs(65535, 1), runs(0, 65536), runs(2, 3, 9, 2), runs(0, 1, 2, 1, 4, 1, 6, 1, 8, 1, 10, 1), runs(0, 2, 3, 2, 65534, 2), runs(0, 3, 4, 65532),
	} {
		for n := range min(extent.Total(l), 6) + 1 {
			taken, left, ok := extent.Take(l, n)
			if !ok || extent.Total(taken) != n || extent.Total(left) != extent.Total(l)-n || extent.Check(left) != api.OK {
				t.Fatalf("Take(%v, %d): %v, %v, %v", l, n, taken, left, ok)
			}
			for _, at := range extent.All(taken) {
				isHas(t, l, at, true)
				isHas(t, left, at, false)
			}
			orders(len(taken), func(order []int) { givenBack(t, left, taken, order, l) })
			orders(n, func(order []int) { givenBack(t, left, single(taken), order, l) })
		}
	}
}

// P6.4: several files are taken, one behind the other, and given back in all orders.
func TestSeveralFilesGivenBack(t *testing.T) {
	l := runs(1, 2, 4, 1, 6, 3, 12, 1)
	now := l
	var pieces []api.Run
	for _, n := range []int{1, 3, 0, 2, 1} {
		taken, left, ok := extent.Take(now, n)
		if !ok {
			t.Fatalf("Take(%v, %d): false", now, n)
		}
		pieces, now = append(pieces, taken...), left
	}
	isRuns(t, "left", now, nil)
	orders(len(pieces), func(order []int) { givenBack(t, now, pieces, order, l) })
}

// base is the first sector of a script, width how many it has: they lie at the end of a disk.
const base, width = 65500, 36

// plain is a disk's free sectors in the chapter's own words.
type plain struct {
	free map[int]bool
	held []api.Run // what was taken, some of which may be given by others
}

// take takes the least sectors, and tells their runs.
func (p *plain) take(n int) ([]api.Run, bool) {
	if n < 0 || n > len(p.free) {
		return nil, false
	}
	taken := map[int]bool{}
	for at := base - 1; len(taken) < n; at++ {
		if p.free[at] {
			taken[at] = true
			delete(p.free, at)
		}
	}
	return listIn(taken, base-1, api.MaxSectors-1), true
}

// give tells whether a run's sectors can be given, and gives them.
func (p *plain) give(r api.Run) bool {
	if r.N < 1 || r.At < 0 || r.At+r.N > api.MaxSectors {
		return false
	}
	for at := r.At; at < r.At+r.N; at++ {
		if p.free[at] {
			return false
		}
	}
	for at := r.At; at < r.At+r.N; at++ {
		p.free[at] = true
	}
	return true
}

// follow does a script by the package and by the plain list. It tells how many of its calls did something.
func follow(t *testing.T, script []byte) int {
	p := &plain{free: map[int]bool{}}
	p.give(api.Run{At: base, N: width})
	now := runs(base, width)
	done := 0
	for _, x := range script {
		more := int(x >> 2)
		var ok, can bool
		switch {
		case x&3 == 0:
			var taken, want []api.Run
			want, can = p.take(more%12 - 1)
			taken, now, ok = extent.Take(now, more%12-1)
			isRuns(t, strconv.Quote(string(script))+", taken", taken, want)
			p.held = append(p.held, taken...)
		case x&3 == 1 && len(p.held) > 0:
			i := more % len(p.held)
			can = p.give(p.held[i])
			now, ok = extent.Give(now, p.held[i])
			p.held = slices.Delete(p.held, i, i+1)
		case x&3 == 2 && len(p.held) > 0: // so that parts of it can be given
			i := more % len(p.held)
			first, others := extent.Cut(p.held[i:i+1], more%7)
			p.held = slices.Replace(p.held, i, i+1, append(first, others...)...)
		case x&3 == 3: // whether or not it was taken
			r := api.Run{At: base + more%(width+2) - 1, N: more % 5}
			can = p.give(r)
			now, ok = extent.Give(now, r)
		}
		if ok != can {
			t.Fatalf("%q: %v, want %v", script, ok, can)
		}
		if ok {
			done++
		}
		want := listIn(p.free, base-1, api.MaxSectors-1)
		if extent.Check(now) != api.OK || extent.Total(now) != len(p.free) || !slices.Equal(now, want) {
			t.Fatalf("%q: %v, want %v", script, now, want)
		}
	}
	return done
}

// P6.2, P6.4: many scripts, the same ones each time.
func TestScripts(t *testing.T) {
	r := rand.New(rand.NewSource(6))
	done := 0
	for range 3000 {
		script := make([]byte, r.Intn(50))
		r.Read(script)
		done += follow(t, script)
	}
	if done < 20000 {
		t.Errorf("the scripts do too little: %d", done)
	}
}

func FuzzScripts(f *testing.F) {
	f.Add([]byte("0123"))
	f.Add([]byte("\x10\x20\x05\x12\x01\x09"))
	f.Fuzz(func(t *testing.T, script []byte) { follow(t, script[:min(len(script), 60)]) })
}

// roomy is a list with room behind it, in which a run stands that is no part of it.
func roomy(l []api.Run) []api.Run {
	return append(append(slices.Clone(l), api.Run{At: -77, N: -77}), runs(1, 1, 2, 2)...)[:len(l)]
}

// spoil changes all of a list, and what it has room for.
func spoil(l []api.Run) {
	l = l[:cap(l)]
	for i := range l {
		l[i] = api.Run{At: -99, N: -99}
	}
}

// calls are the calls that tell lists, of one list each.
func calls() map[string]func(l []api.Run) [][]api.Run {
	all := map[string]func(l []api.Run) [][]api.Run{}
	for _, n := range []int{-1, 0, 1, 2, 3, 4, 5, 6} {
		name := string(rune('a' + 1 + n))
		all["Take "+name] = func(l []api.Run) [][]api.Run { a, b, _ := extent.Take(l, n); return [][]api.Run{a, b} }
		all["Cut "+name] = func(l []api.Run) [][]api.Run { a, b := extent.Cut(l, n); return [][]api.Run{a, b} }
		all["Rest "+name] = func(l []api.Run) [][]api.Run { return [][]api.Run{extent.Rest(l, n, 2)} }
		all["Rest, the first ones, "+name] = func(l []api.Run) [][]api.Run { return [][]api.Run{extent.Rest(l, 0, n)} }
		all["Give "+name] = func(l []api.Run) [][]api.Run { a, _ := extent.Give(l, api.Run{At: 2 * n, N: 1}); return [][]api.Run{a} }
	}
	for name, b := range map[string][]api.Run{"none": nil, "one that goes on": runs(11, 1), "one that doesn't": runs(3, 1), "two": runs(11, 1, 0, 1)} {
		all["Join with "+name] = func(l []api.Run) [][]api.Run { return [][]api.Run{extent.Join(l, b)} }
		all["Join behind "+name] = func(l []api.Run) [][]api.Run { return [][]api.Run{extent.Join(b, l)} }
	}
	return all
}

// lists are some to be handed in: free lists and others.
func lists() [][]api.Run {
	return [][]api.Run{nil, runs(2, 3), runs(2, 3, 9, 2), runs(0, 1, 5, 1, 9, 2), runs(9, 2, 2, 3), runs(2, 3, 5, 1), runs(2, 0), runs(-1, 3, 9, 2)}
}

// copies are lists in memory of their own.
func copies(all [][]api.Run) [][]api.Run {
	var c [][]api.Run
	for _, l := range all {
		c = append(c, slices.Clone(l))
	}
	return c
}

// R3: what is handed in stays as it was, with what lies behind it in memory, whatever is done to what was told.
func TestWhatIsHandedInStays(t *testing.T) {
	for name, call := range calls() {
		for _, want := range lists() {
			l := roomy(want)
			back := slices.Clone(l[:cap(l)])
			for _, told := range call(l) {
				isRuns(t, name, l[:cap(l)], back)
				spoil(told)
				isRuns(t, name+", spoilt", l[:cap(l)], back)
			}
		}
	}
}

// R3: what is told doesn't change, whatever is done to what was handed in, or to another list that was told.
func TestWhatIsToldStays(t *testing.T) {
	for name, call := range calls() {
		for _, want := range lists() {
			l := roomy(want)
			told := call(l)
			back := copies(told)
			spoil(l)
			for i := range told {
				isRuns(t, name, told[i], back[i])
			}
			for i := range told {
				isRuns(t, name+", of two", told[i], back[i])
				spoil(told[i])
			}
		}
	}
}

// R3: the second list of a Join stays, too, and is not shared.
func TestJoinSharesNothing(t *testing.T) {
	for _, first := range lists() {
		for _, second := range lists() {
			a, b := roomy(first), roomy(second)
			told := extent.Join(a, b)
			back := slices.Clone(told)
			isRuns(t, "a", a[:cap(a)][:len(a)+1], append(slices.Clone(first), api.Run{At: -77, N: -77}))
			isRuns(t, "b", b[:cap(b)][:len(b)+1], append(slices.Clone(second), api.Run{At: -77, N: -77}))
			spoil(a)
			spoil(b)
			isRuns(t, "Join", told, back)
			a, b = roomy(first), roomy(second)
			spoil(extent.Join(a, b))
			isRuns(t, "a", a, first)
			isRuns(t, "b", b, second)
		}
	}
}

// R3: Check, Total, Has and All change nothing, and All's sectors are their owner's.
func TestQuestionsChangeNothing(t *testing.T) {
	for _, want := range lists() {
		l := roomy(want)
		back := slices.Clone(l[:cap(l)])
		extent.Check(l)
		extent.Total(l)
		extent.Has(l, 9)
		all := extent.All(l)
		for i := range all {
			all[i] = -5
		}
		isRuns(t, "asked", l[:cap(l)], back)
		isSectors(t, "All again", l, spots(soundOnly(l)))
	}
}

// soundOnly is a list, or nothing, if one of its runs has no sectors or some below 0.
func soundOnly(l []api.Run) []api.Run {
	if slices.ContainsFunc(l, func(r api.Run) bool { return r.N < 1 || r.At < 0 }) {
		return nil
	}
	return l
}

// R1: nil is an empty list.
func TestNothing(t *testing.T) {
	for name, call := range calls() {
		none, empty := call(nil), call([]api.Run{})
		for i := range none {
			isRuns(t, name, empty[i], none[i])
		}
	}
	if extent.Check(nil) != api.OK || extent.Total(nil) != 0 || extent.Has(nil, 0) || len(extent.All(nil)) != 0 {
		t.Errorf("nil is no empty list")
	}
}

// R4: the same calls have the same answers.
func TestSameAnswers(t *testing.T) {
	for name, call := range calls() {
		for _, l := range lists() {
			one, two := call(l), call(roomy(l))
			for i := range one {
				isRuns(t, name, two[i], one[i])
			}
		}
	}
}

// R5: lists of very many runs, taken from and given to at both ends and between.
func TestManyRuns(t *testing.T) {
	var l []api.Run
	for at := 0; at < api.MaxSectors; at += 2 {
		l = append(l, api.Run{At: at, N: 1})
	}
	isTotal(t, l, 32768)
	takes(t, l, 32767, l[:32767], l[32767:])
	takesNot(t, l, 32769)
	gives(t, l, api.Run{At: 65535, N: 1}, append(slices.Clone(l[:32767]), api.Run{At: 65534, N: 2}))
	gives(t, l, api.Run{At: 1, N: 1}, append(runs(0, 3), l[2:]...))
	givesNot(t, l, api.Run{At: 40000, N: 1})
	givesNot(t, slices.Repeat(l, 30), api.Run{At: 1, N: 1})
	takesNot(t, slices.Repeat(l, 30), 1)
}
