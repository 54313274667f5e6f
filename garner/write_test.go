package garner_test

import (
	"testing"

	"garner/api"
	"garner/garner"
)

// total: how many samples a store of one level has in all times up to its own.
func total(t *testing.T, x *garner.Store, from int) int {
	t.Helper()
	n := 0
	rows, e := x.Query(ask(from, x.Now()+1, x.Now()+1-from, "...", "000"))
	if e != api.OK {
		t.Fatalf("P9: all times from %d on: %d", from, e)
	}
	for _, r := range rows {
		n += r.Count
	}
	return n
}

func TestWriteHowMany(t *testing.T) {
	x := beginAt(t, one(100, 19), 50)
	for count := range 12 {
		want := api.OK
		if count < 1 || count > 8 {
			want = api.ErrBatch
		}
		before := total(t, x, 0)
		wantWrite(t, x, want, batchAt(50, count)...)
		if want == api.OK {
			before += count
		}
		if n := total(t, x, 0); n != before {
			t.Errorf("P8: behind a batch of %d: %d samples, want %d", count, n, before)
		}
	}
	wantWrite(t, x, api.ErrBatch, make([]api.Sample, 9)...)
	wantWrite(t, x, api.ErrBatch, make([]api.Sample, 100000)...)
	if e := x.Write(nil); e != api.ErrBatch {
		t.Errorf("P8: Write(nil) = %d", e)
	}
}

func TestWriteWrongSamples(t *testing.T) {
	x := beginAt(t, one(10, 3), 45)
	for _, wrong := range wrongSamples() {
		wantWrite(t, x, api.ErrSample, wrong)
		for _, other := range []api.Sample{at(45, "abc", 1), at(46, "abc", 1), at(9, "abc", 1)} {
			wantWrite(t, x, api.ErrSample, other, wrong)
			wantWrite(t, x, api.ErrSample, wrong, other)
		}
	}
	if n := total(t, x, 10); n != 0 {
		t.Errorf("P1, P8: %d samples behind wrong batches", n)
	}
}

// Times up to NOW, of blocks that are not expired, are taken.
func TestWriteTimes(t *testing.T) {
	for _, c := range []struct{ span, keep, now, first int }{
		{10, 3, 0, 0}, {10, 3, 29, 0}, {10, 3, 30, 0}, {10, 3, 39, 0}, {10, 3, 40, 10}, {10, 3, 49, 10}, {10, 3, 50, 20},
		{1, 0, 7, 7}, {7, 0, 13, 7}, {7, 0, 14, 14}, {1, 19, 100000, 99981}, {100, 19, 99999, 98000}, {100, 19, 100000, 98100}, {100, 0, 100000, 100000},
	} {
		x := beginAt(t, one(c.span, c.keep), c.now)
		for _, time := range []int{0, c.first - 1, c.first, c.now, c.now + 1, 100000} {
			want := api.OK
			if time < 0 {
				want = api.ErrSample
			} else if time > 100000 {
				want = api.ErrSample
			} else if time < c.first || time > c.now {
				want = api.ErrTime
			}
			wantWrite(t, x, want, at(time, "abc", 1))
		}
	}
}

// One sample that is wrong keeps the whole batch out, wherever it stands.
func TestWriteAllOrNothing(t *testing.T) {
	for _, wrong := range []api.Sample{at(46, "abc", 1), at(9, "abc", 1), at(100001, "abc", 1), at(45, "a*c", 1)} {
		for place := range 8 {
			x := beginAt(t, example2(), 45)
			batch := batchAt(45, 8)
			batch[place] = wrong
			if e := x.Write(batch); e != api.ErrTime && e != api.ErrSample {
				t.Errorf("P8: Write(%+v) = %d", batch, e)
			}
			wantRows(t, x, ask(40, 50, 10, "...", "000"))
			// Nor was a series admitted: there is still room for two.
			wantWrite(t, x, api.OK, at(45, "xxx", 1), at(45, "yyy", 1), at(45, "abc", 1))
			wantRows(t, x, ask(40, 50, 10, "...", "100"), row(0, "***", 1, 1, 1, 1), row(0, "x..", 1, 1, 1, 1), row(0, "y..", 1, 1, 1, 1))
		}
	}
}

func TestWriteFull(t *testing.T) {
	x := beginAt(t, one(10, 3), 5)
	for range 62 {
		wantWrite(t, x, api.OK, batchAt(5, 8)...)
	}
	// A batch that is refused takes no room.
	for range 3 {
		wantWrite(t, x, api.ErrFull, batchAt(5, 8)...)
		wantWrite(t, x, api.ErrFull, batchAt(5, 5)...)
	}
	wantWrite(t, x, api.OK, batchAt(5, 3)...)
	wantWrite(t, x, api.ErrFull, batchAt(5, 2)...)
	wantWrite(t, x, api.OK, at(0, "zzz", 1))
	if n := total(t, x, 0); n != 500 {
		t.Errorf("P8: %d samples, want 500", n)
	}
	wantWrite(t, x, api.ErrFull, at(5, "abc", 1))
	wantWrite(t, x, api.ErrTime, at(6, "abc", 1))
	wantWrite(t, x, api.ErrSample, at(6, "a*c", 1))
	wantWrite(t, x, api.ErrBatch, make([]api.Sample, 9)...)
	// Expired samples count, too.
	tickTo(t, x, 1000)
	wantWrite(t, x, api.ErrFull, at(1000, "abc", 1))
	if n := total(t, x, 970); n != 0 {
		t.Errorf("P8: %d samples, want none", n)
	}
}

// Samples that expire step by step count as well.
func TestWriteFullOverTime(t *testing.T) {
	x := begin(t, least())
	for i := range 500 {
		wantWrite(t, x, api.OK, at(i, "abc", 1))
		wantTick(t, x, 1, api.OK)
	}
	wantWrite(t, x, api.ErrFull, at(500, "abc", 1))
}

// Series are admitted in the order of the batch, and stay so when all their samples are expired.
func TestWriteAdmitsForGood(t *testing.T) {
	c := one(10, 1)
	c.Levels[0].Limit = 2
	x := begin(t, c)
	wantWrite(t, x, api.OK, at(0, "bbb", 1), at(0, "aaa", 2), at(0, "ccc", 4), at(0, "bbb", 8))
	wantRows(t, x, ask(0, 1, 1, "...", "111"), row(0, "***", 1, 4, 4, 4), row(0, "aaa", 1, 2, 2, 2), row(0, "bbb", 2, 9, 1, 8))
	tickTo(t, x, 500)
	wantWrite(t, x, api.OK, at(500, "ccc", 1))
	wantWrite(t, x, api.OK, at(500, "aaa", 2))
	wantRows(t, x, ask(500, 501, 1, "...", "111"), row(0, "***", 1, 1, 1, 1), row(0, "aaa", 1, 2, 2, 2))
}

// Every Limit lets as many different series in as it says.
func TestWriteLimits(t *testing.T) {
	for limit := 1; limit <= 20; limit++ {
		c := one(10, 1)
		c.Levels[0].Limit = limit
		x := begin(t, c)
		var want []api.Row
		if limit < 26 {
			want = append(want, row(0, "***", 26-limit, int64(26-limit), 1, 1))
		}
		for i := range 26 {
			name := string([]byte{byte('a' + i), '-', '-'})
			wantWrite(t, x, api.OK, at(0, name, 1))
			if i < limit {
				want = append(want, row(0, name[:1]+"..", 1, 1, 1, 1))
			}
		}
		wantRows(t, x, ask(0, 10, 10, "...", "100"), want...)
	}
}

// As long as no more than Limit different labels come to each level, there is no group *** (P12).
func TestWriteWithinLimits(t *testing.T) {
	for limit := 1; limit <= 20; limit++ {
		c := example2()
		c.Levels[0].Limit = limit
		c.Levels[1].Limit = (limit + 1) / 2
		x := begin(t, c)
		var fine, coarse []api.Row
		for i := range limit {
			name := string([]byte{byte('a' + i/2), "bc"[i%2], '-'})
			wantWrite(t, x, api.OK, at(0, name, 1))
			wantWrite(t, x, api.OK, at(0, name, 1))
			fine = append(fine, row(0, name[:2]+".", 2, 2, 1, 1))
			if i%2 == 0 {
				coarse = append(coarse, row(0, name[:1]+"..", 0, 0, 1, 1))
			}
			coarse[i/2].Count += 2
			coarse[i/2].Sum += 2
		}
		wantRows(t, x, ask(0, 10, 10, "...", "110"), fine...)
		wantCells(t, x, limit)
		tickTo(t, x, 10)
		wantRows(t, x, ask(0, 10, 10, "...", "100"), coarse...)
		wantCells(t, x, (limit+1)/2)
	}
}

// What a rule makes of labels is what takes room, at level 0 too.
func TestWriteAsksForProjected(t *testing.T) {
	c := api.Config{Span: 10, Keep: 3, Levels: []api.Level{{Age: 0, Window: 1, Rule: "gkd", Limit: 2}}}
	x := begin(t, c)
	wantWrite(t, x, api.OK, at(0, "axp", 1), at(0, "mxq", 2), at(0, "nxq", 4), at(0, "zx-", 8), at(0, "-xp", 16))
	wantRows(t, x, ask(0, 10, 10, "...", "010"), row(0, "***", 1, 16, 16, 16), row(0, ".x.", 4, 15, 1, 8))
}

// A later level asks for what its rule makes of the series ahead, not of the sample's labels.
func TestWriteLevelsInTurn(t *testing.T) {
	c := api.Config{Span: 1, Keep: 3, Levels: []api.Level{
		{Age: 0, Window: 1, Rule: "kgk", Limit: 20},
		{Age: 1, Window: 1, Rule: "kkd", Limit: 2},
		{Age: 2, Window: 1, Rule: "kdk", Limit: 20},
	}}
	x := begin(t, c)
	wantWrite(t, x, api.OK, at(0, "aax", 1), at(0, "aby", 2), at(0, "azz", 4), at(0, "baz", 8), at(0, "amz", 16))
	wantRows(t, x, ask(0, 1, 1, "...", "101"), row(0, "a.x", 1, 1, 1, 1), row(0, "a.y", 1, 2, 2, 2), row(0, "a.z", 2, 20, 4, 16), row(0, "b.z", 1, 8, 8, 8))
	// aa- and an- are admitted at level 1; ba- is not.
	tickTo(t, x, 1)
	wantRows(t, x, ask(0, 1, 1, "...", "100"), row(0, "***", 1, 8, 8, 8), row(0, "a..", 4, 23, 1, 16))
	// Out at level 1 is out at level 2, though there is room.
	tickTo(t, x, 2)
	wantRows(t, x, ask(0, 1, 1, "...", "100"), row(0, "***", 1, 8, 8, 8), row(0, "a..", 4, 23, 1, 16))
}

// Write keeps no batch, and writes neither into it nor into its spare room.
func TestWriteOwn(t *testing.T) {
	for count := range 10 {
		x := beginAt(t, one(100, 19), 50)
		room := batchAt(50, 14)
		want := append([]api.Sample{}, room...)
		e := x.Write(room[2 : 2+count])
		sameSamples(t, "P2: behind Write", room, want)
		before := total(t, x, 0)
		spoil(room)
		wantWrite(t, x, api.OK, at(50, "abc", 0))
		sum := int64(0)
		for i := range count {
			sum += int64(want[2+i].Value)
		}
		if e == api.OK {
			wantRows(t, x, ask(50, 51, 1, "a..", "111"), row(0, "abc", before+1, sum, 0, max(0, int32(count)+1)))
		}
	}
}
