package record_test

import (
	"testing"

	"scrinium/api"
	"scrinium/record"
)

// P15.1: records that may be, up to the last window, place and time, and the longest payload.
func TestCheckOfThoseThatMayBe(t *testing.T) {
	for _, r := range few() {
		isErr(t, "Check", record.Check(r), api.OK)
	}
	for i := range mostCount {
		isErr(t, "Check of a place", record.Check(api.Record{Index: i}), api.OK)
	}
	for n := range mostPayload + 1 {
		isErr(t, "Check of a length", record.Check(api.Record{Payload: string(make([]byte, n))}), api.OK)
	}
}

// P15.1: those that may not; where a number is none, ErrArg is told also of too long a payload.
func TestCheckOfThoseThatMayNot(t *testing.T) {
	for r, want := range noRecords() {
		if got := record.Check(r); got != want {
			t.Errorf("Check of %d, %d, %d, %d bytes: %v, want %v", r.Window, r.Index, r.Time, len(r.Payload), got, want)
		}
	}
}

// P15.1: just beside each edge, one by one.
func TestCheckBesideTheEdges(t *testing.T) {
	for _, c := range []struct {
		r    api.Record
		want api.Errno
	}{
		{api.Record{}, api.OK},
		{api.Record{Window: -1}, api.ErrArg},
		{api.Record{Window: 1 << 50}, api.OK},
		{api.Record{Window: 1<<50 + 1}, api.ErrArg},
		{api.Record{Time: -1}, api.ErrArg},
		{api.Record{Time: 1 << 50}, api.OK},
		{api.Record{Time: 1<<50 + 1}, api.ErrArg},
		{api.Record{Index: -1}, api.ErrArg},
		{api.Record{Index: 3999}, api.OK},
		{api.Record{Index: 4000}, api.ErrArg},
		{api.Record{Payload: string(make([]byte, 2000))}, api.OK},
		{api.Record{Payload: string(make([]byte, 2001))}, api.ErrSize},
		{api.Record{Window: 1 << 50, Index: 3999, Time: 1 << 50, Payload: string(make([]byte, 2000))}, api.OK},
		{api.Record{Window: 1 << 50, Index: 3999, Time: 1 << 50, Payload: string(make([]byte, 2001))}, api.ErrSize},
		{api.Record{Index: 4000, Payload: string(make([]byte, 2001))}, api.ErrArg},
	} {
		if got := record.Check(c.r); got != c.want {
			t.Errorf("Check of %d, %d, %d, %d bytes: %v, want %v", c.r.Window, c.r.Index, c.r.Time, len(c.r.Payload), got, c.want)
		}
	}
}

// P15.1: a time need not be in the window: how wide that is isn't told.
func TestCheckAsksNothingOfTimesInWindows(t *testing.T) {
	isErr(t, "Check", record.Check(api.Record{Window: mostTime, Time: 0}), api.OK)
	isErr(t, "Check", record.Check(api.Record{Window: 0, Time: mostTime}), api.OK)
}

// mayBe is what Check must tell, in the chapter's words.
func mayBe(r api.Record) api.Errno {
	if r.Window < 0 || r.Window > mostTime || r.Time < 0 || r.Time > mostTime || r.Index < 0 || r.Index > mostIndex {
		return api.ErrArg
	}
	if len(r.Payload) > mostPayload {
		return api.ErrSize
	}
	return api.OK
}

// P15.1: by chance; R4: asked again, the same is told.
func TestCheckByChance(t *testing.T) {
	draw := newPicker()
	for range 50000 {
		r := draw.record()
		isErr(t, "Check", record.Check(r), mayBe(r))
		isErr(t, "Check, again", record.Check(r), mayBe(r))
	}
}
