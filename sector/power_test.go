package sector_test

import (
	"math"
	"testing"

	"scrinium/api"
	"scrinium/sector"
)

// isOff fails if a disk without power tells anything else than that, but where there is no such sector.
func isOff(t *testing.T, d *sector.Disk) {
	t.Helper()
	steps, cached := d.Steps(), d.Cached()
	for range 2 {
		for at := range d.Sectors() {
			readsNot(t, d, at, api.ErrPower)
			isErr(t, "Write", d.Write(at, full('!')), api.ErrPower)
			isErr(t, "Write of a byte less", d.Write(at, full('!')[1:]), api.ErrArg)
		}
		readsNot(t, d, -1, api.ErrArg)
		readsNot(t, d, d.Sectors(), api.ErrArg)
		isErr(t, "Write at -1", d.Write(-1, full('!')), api.ErrArg)
		isErr(t, "Write behind the last one", d.Write(d.Sectors(), full('!')), api.ErrArg)
		isErr(t, "Flush", d.Flush(), api.ErrPower)
		tells(t, d, false, steps, cached)
	}
}

// P5.3: that many steps work, writes and flushes as they come, and the next one takes the power.
func TestArm(t *testing.T) {
	for _, arm := range []int{0, 1, 2, 3, 4, 5, 30} {
		for kinds := range 8 { // which of three steps in a row are flushes
			d := sector.New(2)
			write(t, d, "0a")
			d.Arm(arm)
			tells(t, d, true, 1, 1)
			cached := 1
			next := func(i int) api.Errno {
				if kinds>>(i%3)&1 == 1 {
					return d.Flush()
				}
				return d.Write(i%2, full('b'))
			}
			for i := range arm {
				isErr(t, "a step", next(i), api.OK)
				if kinds>>(i%3)&1 == 1 {
					cached = 0
				} else {
					cached++
				}
				tells(t, d, true, i+2, cached)
			}
			first, err := d.Read(0)
			isErr(t, "Read ahead of the last step", err, api.OK)
			lay := d.Peek(0)
			isErr(t, "the next step", next(arm), api.ErrPower)
			tells(t, d, false, arm+1, cached)
			isOff(t, d)
			if d.Peek(0) != lay {
				t.Fatalf("Peek(0): %q, ahead of it %q", short(d.Peek(0)), short(lay))
			}
			everything := make([]int, cached)
			for i := range everything {
				everything[i] = 1
			}
			d.Crash(everything...)
			reads(t, d, 0, first[0])
		}
	}
}

// P5.3: 0, and numbers below it: there is power still, till a step is tried.
func TestArmOfNoSteps(t *testing.T) {
	for _, arm := range []int{0, -1, -2, -65536, math.MinInt} {
		d := sector.New(2)
		write(t, d, "0a")
		d.Arm(arm)
		tells(t, d, true, 1, 1)
		reads(t, d, 0, 'a')
		reads(t, d, 1, 0)
		isErr(t, "Flush", d.Flush(), api.ErrPower)
		tells(t, d, false, 1, 1)
		isOff(t, d)
		lies(t, d, 0, 0)

		d = sector.New(2)
		d.Arm(arm)
		isErr(t, "Write", d.Write(1, full('b')), api.ErrPower)
		tells(t, d, false, 0, 0)
		isOff(t, d)
		lies(t, d, 1, 0)
	}
}

// P5.3: a call that fails is no step: it takes none of those that work, nor the power.
func TestFailuresAreNoSteps(t *testing.T) {
	d := sector.New(2)
	fail := func() {
		t.Helper()
		steps, cached := d.Steps(), d.Cached()
		for _, at := range places(2) {
			isErr(t, "Write", d.Write(at, full('!')), api.ErrArg)
			readsNot(t, d, at, api.ErrArg)
		}
		isErr(t, "Write of nothing", d.Write(0, ""), api.ErrArg)
		isErr(t, "Write of 255 bytes", d.Write(0, text(255)), api.ErrArg)
		isErr(t, "Write of 257 bytes", d.Write(1, text(257)), api.ErrArg)
		tells(t, d, true, steps, cached)
	}
	fail()
	d.Arm(2)
	fail()
	write(t, d, "0a")
	fail()
	isErr(t, "Flush", d.Flush(), api.OK)
	fail()
	tells(t, d, true, 2, 0)
	isErr(t, "Write", d.Write(0, full('b')), api.ErrPower)
	tells(t, d, false, 2, 0)
	isOff(t, d)
	lies(t, d, 0, 'a')
}

// P5.3: armed again, the last number counts, from then on, be it more or less.
func TestArmAgain(t *testing.T) {
	for first := -1; first < 4; first++ {
		for done := range max(first, 0) + 1 {
			for again := -1; again < 4; again++ {
				d := sector.New(1)
				d.Arm(first)
				for range done {
					write(t, d, "0a")
				}
				d.Arm(again)
				tells(t, d, true, done, done)
				for range again {
					write(t, d, "0b")
				}
				isErr(t, "Write", d.Write(0, full('c')), api.ErrPower)
				tells(t, d, false, done+max(again, 0), done+max(again, 0))
				isOff(t, d)
			}
		}
	}
}

// P5.3: armed without power, a disk has none, nor is it armed when a crash gives it some.
func TestArmWithoutPower(t *testing.T) {
	for _, arm := range []int{-1, 0, 1, 5, math.MaxInt} {
		d := sector.New(1)
		write(t, d, "0a")
		d.Arm(0)
		isErr(t, "Flush", d.Flush(), api.ErrPower)
		d.Arm(arm)
		tells(t, d, false, 1, 1)
		isOff(t, d)
		d.Crash(1)
		tells(t, d, true, 1, 0)
		for range 10 {
			write(t, d, "0b")
		}
		tells(t, d, true, 11, 10)
	}
}

// P5.3, P5.4: a crash disarms, whether or not there is power.
func TestCrashDisarms(t *testing.T) {
	for arm := range 4 {
		d := sector.New(1)
		d.Arm(arm)
		d.Crash()
		tells(t, d, true, 0, 0)
		for range 10 {
			write(t, d, "0a")
		}
		tells(t, d, true, 10, 10)
		d.Arm(arm)
		for range arm {
			isErr(t, "Flush", d.Flush(), api.OK)
		}
		isErr(t, "Flush", d.Flush(), api.ErrPower)
		d.Crash()
		for range 10 {
			isErr(t, "Flush", d.Flush(), api.OK)
		}
		tells(t, d, true, 20+arm, 0)
	}
}

// P5.3: as many steps as one likes.
func TestArmOfManySteps(t *testing.T) {
	d := sector.New(1)
	d.Arm(math.MaxInt)
	for i := range 2000 {
		write(t, d, "0a")
		tells(t, d, true, i+1, i+1)
	}
}

// P5.2, P5.3: what a disk without power is asked is answered with the error that its promise names first.
func TestWithoutPowerErrArgIsFirst(t *testing.T) {
	d := sector.New(1)
	d.Arm(0)
	isErr(t, "Flush", d.Flush(), api.ErrPower)
	for _, at := range places(1) {
		readsNot(t, d, at, api.ErrArg)
		isErr(t, "Write", d.Write(at, full('a')), api.ErrArg)
	}
	isErr(t, "Write of 255 bytes", d.Write(0, text(255)), api.ErrArg)
	isErr(t, "Write of 257 bytes", d.Write(0, text(257)), api.ErrArg)
	isOff(t, d)
}
