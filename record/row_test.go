package record_test

import (
	"math"
	"slices"
	"strconv"
	"strings"
	"testing"

	"scrinium/api"
	"scrinium/record"
)

// P15.3: the chapter's example.
func TestExampleOfRow(t *testing.T) {
	r := api.Record{Window: 1, Index: 0, Time: 300, Payload: "ab"}
	s := record.Row([]api.Record{r})
	isBytes(t, "Row", s, fromHex(t, "02 01 2c 01 02 61 62"))
	isInt(t, "Size", record.Size(r), 7)
	l, err := record.Rows(1, s)
	isErr(t, "Rows", err, api.OK)
	areRecords(t, "Rows", l, []api.Record{r})
}

// P15.3: some, byte by byte; of a time below 0 it is 2^64 and it.
func TestRowOfOne(t *testing.T) {
	for _, c := range []struct {
		r    api.Record
		want string
	}{
		{api.Record{}, "00 00"},
		{api.Record{Time: 1}, "01 01 00"},
		{api.Record{Time: 256, Payload: "\x00"}, "02 01 00 01 01 00"},
		{api.Record{Time: 1 << 50}, "07 04 00 00 00 00 00 00 00"},
		{api.Record{Time: math.MaxInt}, "08 7f ff ff ff ff ff ff ff 00"},
		{api.Record{Time: -1, Payload: "c"}, "08 ff ff ff ff ff ff ff ff 01 01 63"},
		{api.Record{Time: -2}, "08 ff ff ff ff ff ff ff fe 00"},
		{api.Record{Time: math.MinInt}, "08 80 00 00 00 00 00 00 00 00"},
	} {
		want := fromHex(t, c.want)
		isBytes(t, "Row", record.Row([]api.Record{c.r}), want)
		isInt(t, "Size", record.Size(c.r), len(want))
	}
	y := strings.Repeat("y", 2001)
	isBytes(t, "Row of too long a payload", record.Row([]api.Record{{Payload: y}}), "\x00\x02\x07\xd1"+y)
}

// P15.3, R5: a row has any record's time and payload, whether or not it may be, and nothing of its window and its place.
func TestRowOfAny(t *testing.T) {
	numbers := slices.Concat(times(), none())
	for _, at := range numbers {
		for _, s := range append(payloads(), long()...) {
			r := api.Record{Time: at, Payload: s}
			want := number(uint64(at)) + text(s)
			isBytes(t, "Row", record.Row([]api.Record{r}), want)
			isInt(t, "Size", record.Size(r), len(want))
		}
		for _, n := range numbers {
			r := api.Record{Window: n, Index: at, Time: 300, Payload: "ab"}
			isBytes(t, "Row", record.Row([]api.Record{r}), "\x02\x01\x2c\x01\x02ab")
			isInt(t, "Size", record.Size(r), 7)
		}
	}
}

// P15.3: many, one behind the other, in their order; a row has as many bytes as they have.
func TestRowOfMany(t *testing.T) {
	for _, n := range []int{0, 1, 2, 3, 10, 255, 256, 300} {
		l := inARow(5, n)
		s := record.Row(l)
		isBytes(t, "Row", s, rowOf(l))
		sum := 0
		for _, r := range l {
			sum += record.Size(r)
		}
		isInt(t, "Sizes of all", sum, len(s))
		slices.Reverse(l)
		isBytes(t, "Row, turned", record.Row(l), rowOf(l))
	}
	isBytes(t, "Row of nil", record.Row(nil), "")
	isBytes(t, "Row of none", record.Row([]api.Record{}), "")
}

// P15.3, R5: also more than a shard may have.
func TestRowOfMoreThanMayBe(t *testing.T) {
	l := make([]api.Record, 3*mostCount)
	for i := range l {
		l[i] = api.Record{Window: -i, Index: -1, Time: i - mostCount, Payload: strconv.Itoa(i)}
	}
	isBytes(t, "Row", record.Row(l), rowOf(l))
}

// P15.3, P15.4: what was written is read again, with the window that is asked, and the places from 0 on.
func TestRowsAreReadAgain(t *testing.T) {
	for _, n := range []int{0, 1, 2, 3, 10, 255, 256, 300} {
		for _, w := range []int{0, 1, 4, mostTime} {
			l, err := record.Rows(w, record.Row(inARow(9, n)))
			isErr(t, "Rows", err, api.OK)
			areRecords(t, "Rows", l, inARow(w, n))
			for i, r := range l {
				isErr(t, "Check", record.Check(r), api.OK)
				isInt(t, "place", r.Index, i)
				isInt(t, "window", r.Window, w)
			}
		}
	}
	for _, at := range times() {
		for _, s := range payloads() {
			l, err := record.Rows(3, record.Row([]api.Record{{Time: at, Payload: s}}))
			isErr(t, "Rows", err, api.OK)
			areRecords(t, "Rows", l, []api.Record{{Window: 3, Time: at, Payload: s}})
		}
	}
}

// P15.3: as many as a shard may have, and one more.
func TestRowsOfTheMostAndMore(t *testing.T) {
	all := inARow(2, mostCount+2)
	for _, n := range []int{mostCount - 1, mostCount} {
		l, err := record.Rows(2, record.Row(all[:n]))
		isErr(t, "Rows of "+strconv.Itoa(n), err, api.OK)
		areRecords(t, "Rows", l, all[:n])
	}
	areNone(t, "one too many", 2, record.Row(all[:mostCount+1]))
	areNone(t, "two too many", 2, record.Row(all))
	most := strings.Repeat("\x00\x00", mostCount)
	areRead(t, mostTime, most)
	areNone(t, "one too many of the least", 0, most+"\x00\x00")
	areNone(t, "half a one too many", 0, most+"\x00")
	areNone(t, "twice as many", 0, most+most)
	areNone(t, "far too many", 0, strings.Repeat(most, 300))
}

// P15.3: a window that is none has no records; of nothing there are none that may not be.
func TestRowsOfNoWindow(t *testing.T) {
	for _, w := range none() {
		for _, n := range []int{1, 2, 10, mostCount} {
			areNone(t, "no window", w, record.Row(inARow(0, n)))
		}
		areRead(t, w, "")
		areNone(t, "no window", w, "\x00")
	}
	l, err := record.Rows(-1, "")
	isErr(t, "Rows of nothing", err, api.OK)
	areRecords(t, "Rows of nothing", l, nil)
	areRead(t, mostTime, "\x00\x00")
	areNone(t, "behind the last window", mostTime+1, "\x00\x00")
}

// P15.3: one that may not be, ahead of, among and behind others.
func TestRowsWithOneThatMayNotBe(t *testing.T) {
	y := strings.Repeat("y", mostPayload)
	bad := []string{"\x07\x04\x00\x00\x00\x00\x00\x01\x00", "\x08\xff\xff\xff\xff\xff\xff\xff\xff\x00", "\x08\x80\x00\x00\x00\x00\x00\x00\x00\x00", "\x00\x02\x07\xd1" + y + "y", "\x00\x03\x01\x00\x00" + strings.Repeat("z", 1<<16)}
	for _, r := range bad {
		for _, n := range []int{0, 1, 7} {
			some := record.Row(inARow(2, n))
			areNone(t, "behind", 2, some+r)
			areNone(t, "ahead", 2, r+some)
			areNone(t, "among", 2, some+r+some)
		}
	}
	for _, at := range none() {
		areNone(t, "a time", 2, record.Row([]api.Record{{Time: 1}, {Time: at, Payload: "a"}}))
	}
	good := "\x07\x04\x00\x00\x00\x00\x00\x00\x02\x07\xd0" + y
	areRead(t, 2, good+good)
	isInt(t, "Rows of the greatest", len(first(record.Rows(2, good+good))), 2)
}

// first is the list of what was told.
func first(l []api.Record, _ api.Errno) []api.Record { return l }

// P15.3: a row that is cut off in the midst of a record, or goes on with what is none.
func TestRowsOfOtherForms(t *testing.T) {
	l := []api.Record{{Window: 2, Time: 300, Payload: "ab"}, {Window: 2, Index: 1}, {Window: 2, Index: 2, Time: 1 << 20, Payload: strings.Repeat("c", 256)}}
	s := record.Row(l)
	ends, end := map[int]int{0: 0}, 0
	for i, r := range l {
		end += record.Size(r)
		ends[end] = i + 1
	}
	for i := range len(s) + 1 {
		n, whole := ends[i]
		if !whole {
			areNone(t, "cut off", 2, s[:i])
			continue
		}
		got, err := record.Rows(2, s[:i])
		isErr(t, "cut between two", err, api.OK)
		areRecords(t, "cut between two", got, l[:n])
	}
	for _, more := range []string{"\x00", "x", "\x09\x00", "\x01\x00\x00", "\x02\x00\x01\x00", "\x00\x01\x00", "\x00\x01\x01", "\x00\x02\x00\x01a", "\xff\xff"} {
		areNone(t, "more behind", 2, s+more)
		// Ahead of a row it may begin another one.
		areRead(t, 2, more+s)
		areNone(t, "alone", 2, more)
	}
}

// P15.3, P1: however many bytes a payload says it has.
func TestRowsOfGreatClaims(t *testing.T) {
	for _, claim := range []uint64{1, 2, 1999, 2000, 2001, 1 << 16, api.MaxText, 1 << 31, mostTime, 1<<63 - 1, 1 << 63, math.MaxUint64} {
		areNone(t, "so many bytes", 0, "\x00"+number(claim))
		areNone(t, "so many bytes", 0, "\x00\x00"+"\x00"+number(claim)+strings.Repeat("a", int(min(claim, 5000))-1))
		areRead(t, 0, "\x00"+number(claim)+strings.Repeat("a", int(min(claim, 5000))))
	}
}

// P15.3: each byte turned into others: what is left a row is read as that one.
func TestRowsOfTurnedBytes(t *testing.T) {
	for _, n := range []int{1, 2, 20} {
		s := record.Row(inARow(2, n))
		for at := range s {
			for _, turn := range []byte{1, 2, 4, 0x10, 0x80, 0xff, s[at]} {
				b := []byte(s)
				b[at] ^= turn
				areRead(t, 2, string(b))
			}
		}
	}
}

// P15.3: all short rows of the bytes that matter.
func TestRowsOfShortBytes(t *testing.T) {
	l := []string{""}
	for from := 0; len(l[from]) < 8; from++ {
		areRead(t, 2, l[from])
		for _, c := range "\x00\x01\x02\x09" {
			l = append(l, l[from]+string(c))
		}
	}
}

// P15.3, P15.4: by chance; what is read is written as the same bytes.
func TestRowsByChance(t *testing.T) {
	draw := newPicker()
	for range 5000 {
		var l []api.Record
		for range draw.IntN(12) {
			l = append(l, draw.record())
		}
		s := record.Row(l)
		isBytes(t, "Row", s, rowOf(l))
		w := draw.record().Window
		areRead(t, w, s)
		if got, err := record.Rows(w, s); err == api.OK {
			isBytes(t, "Row of Rows", record.Row(got), s)
		}
	}
}

// R3: what is handed in stays as it is, and what is told is its owner's.
func TestRowsAreTheirOwners(t *testing.T) {
	l := inARow(2, 20)
	s := record.Row(l)
	areRecords(t, "what Row was handed", l, inARow(2, 20))
	l[0] = api.Record{Time: 7, Payload: "another"}
	isBytes(t, "Row behind a change of what it was handed", s, rowOf(inARow(2, 20)))

	got, _ := record.Rows(2, s)
	other, _ := record.Rows(2, s)
	clear(got)
	_ = append(got[:0], l...)
	areRecords(t, "Rows behind a change of others", other, inARow(2, 20))
	again, _ := record.Rows(2, s)
	areRecords(t, "Rows, again", again, inARow(2, 20))
}

// P15.3, P15.4, P1: whatever the bytes are.
func FuzzRows(f *testing.F) {
	for _, n := range []int{0, 1, 2, 12} {
		f.Add(2, rowOf(inARow(2, n)))
	}
	f.Add(-1, "\x00\x00")
	f.Add(mostTime+1, "\x00\x00")
	f.Add(mostTime, "\x07\x04\x00\x00\x00\x00\x00\x00\x00")
	f.Add(0, strings.Repeat("\x00\x00", mostCount+1))
	f.Fuzz(func(t *testing.T, w int, s string) {
		areRead(t, w, s)
		areRead(t, int(uint(w)%(mostTime+1)), s)
		if l, err := record.Rows(w, s); err == api.OK {
			isBytes(t, "Row of Rows", record.Row(l), s)
		}
	})
}
