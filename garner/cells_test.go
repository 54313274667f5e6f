package garner_test

import (
	"testing"

	"garner/api"
)

func TestCellsOfNewStore(t *testing.T) {
	for _, c := range []api.Config{three(), greatest(), least(), example2()} {
		x := begin(t, c)
		wantCells(t, x, 0)
		tickTo(t, x, 1000)
		wantCells(t, x, 0)
	}
}

// A sample makes a new cell if its window or its series is another one.
func TestCellsWindowsAndSeries(t *testing.T) {
	c := one(20, 3)
	c.Levels[0].Window = 5
	x := beginAt(t, c, 45)
	for _, w := range []struct {
		time   int
		labels string
		want   int
	}{
		{4, "abc", 1}, {0, "abc", 1}, {4, "abc", 1}, {5, "abc", 2}, {9, "abc", 2}, {10, "abc", 3},
		{4, "ab-", 4}, {4, "abd", 5}, {4, "azc", 6}, {4, "---", 7}, {0, "---", 7},
		{19, "abc", 8}, {20, "abc", 9}, {39, "abc", 10}, {40, "abc", 11}, {44, "abc", 11}, {45, "abc", 12},
	} {
		wantWrite(t, x, api.OK, at(w.time, w.labels, 1))
		wantCells(t, x, w.want)
	}
	// Values do not tell cells apart.
	wantWrite(t, x, api.OK, at(45, "abc", -7), at(45, "abc", 0), at(4, "---", 2147483647))
	wantCells(t, x, 12)
}

// As a block gets older, its cells become fewer by wider windows and by fewer labels; at last there are none.
func TestCellsGetFewer(t *testing.T) {
	x := beginAt(t, agingConfig(), 11)
	for i := range 12 {
		wantWrite(t, x, api.OK, at(i, "abc", 1))
	}
	wantWrite(t, x, api.OK, at(0, "abz", 1), at(0, "axc", 1))
	for _, w := range []struct{ now, want int }{
		{11, 14}, {12, 14}, {23, 14}, {24, 6}, {47, 6}, {48, 3}, {71, 3}, {72, 2}, {119, 2}, {120, 0}, {1000, 0}, {100000, 0},
	} {
		tickTo(t, x, w.now)
		wantCells(t, x, w.want)
	}
}

// Blocks of several levels at one time are counted each by its own level, also what is written late.
func TestCellsOfSeveralBlocks(t *testing.T) {
	x := beginAt(t, agingConfig(), 84)
	for _, first := range []int{0, 24, 48, 72} {
		batch := []api.Sample{at(first, "abc", 1), at(first+1, "abc", 1), at(first+3, "abd", 1), at(first+6, "abd", 1), at(first+6, "axz", 1)}
		wantWrite(t, x, api.OK, batch...)
	}
	// The ages are 7, 5, 3 and 1: levels 3 (a-a, a-n), 2 (a-a twice, a-n), 1 (aba thrice, axn) and 0.
	wantCells(t, x, 2+3+4+5)
	tickTo(t, x, 96)
	wantCells(t, x, 2+2+3+4)
	tickTo(t, x, 120)
	wantCells(t, x, 0+2+2+3)
	tickTo(t, x, 144)
	wantCells(t, x, 0+0+2+2)
	tickTo(t, x, 192)
	wantCells(t, x, 0)
}

// Blocks expire at their ends, not at the times of their samples.
func TestCellsExpire(t *testing.T) {
	for _, c := range []struct{ span, keep, last int }{{10, 3, 39}, {10, 0, 9}, {1, 0, 0}, {1, 19, 19}, {100, 19, 1999}} {
		x := begin(t, one(c.span, c.keep))
		wantWrite(t, x, api.OK, at(0, "abc", 1))
		wantCells(t, x, 1)
		tickTo(t, x, c.span-1)
		wantWrite(t, x, api.OK, at(c.span-1, "abd", 1))
		tickTo(t, x, c.last)
		wantCells(t, x, 2)
		wantTick(t, x, 1, api.OK)
		wantCells(t, x, 0)
		wantWrite(t, x, api.OK, at(x.Now(), "abd", 1))
		wantCells(t, x, 1)
	}
}

// What was not admitted makes up one cell of each window.
func TestCellsOfTheRest(t *testing.T) {
	x := beginAt(t, example2(), 9)
	wantWrite(t, x, api.OK, at(0, "aaa", 1), at(0, "bbb", 1))
	wantCells(t, x, 2)
	wantWrite(t, x, api.OK, at(0, "ccc", 1))
	wantCells(t, x, 3)
	wantWrite(t, x, api.OK, at(0, "ddd", 1), at(0, "eee", 1))
	wantCells(t, x, 3)
	wantWrite(t, x, api.OK, at(4, "ddd", 1), at(5, "eee", 1))
	wantCells(t, x, 5)
	wantTick(t, x, 1, api.OK)
	// a-a, b-b and *** of the first window, *** of the second one.
	wantCells(t, x, 4)
}

// A change that is refused makes no cell.
func TestCellsRefused(t *testing.T) {
	x := beginAt(t, one(10, 3), 45)
	wantWrite(t, x, api.OK, at(45, "abc", 1))
	wantWrite(t, x, api.ErrBatch)
	wantWrite(t, x, api.ErrBatch, batchAt(44, 9)...)
	wantWrite(t, x, api.ErrSample, at(44, "abc", 1), at(44, "a*c", 1))
	wantWrite(t, x, api.ErrTime, at(44, "abc", 1), at(46, "abc", 1))
	wantWrite(t, x, api.ErrTime, at(44, "abc", 1), at(9, "abc", 1))
	wantTick(t, x, 1001, api.ErrArg)
	wantCells(t, x, 1)
}

// As many cells as samples may be.
func TestCellsMost(t *testing.T) {
	x := beginAt(t, one(100, 19), 499)
	for i := range 500 {
		wantWrite(t, x, api.OK, at(i, "abc", 1))
		wantCells(t, x, i+1)
	}
	wantWrite(t, x, api.ErrFull, at(0, "abd", 1))
	wantCells(t, x, 500)
	y := beginAt(t, greatest(), 99)
	for range 62 {
		wantWrite(t, y, api.OK, batchAt(99, 8)...)
	}
	wantCells(t, y, 1)
}

// Each store has its own cells.
func TestCellsOneStore(t *testing.T) {
	x, y := begin(t, example2()), begin(t, example2())
	wantWrite(t, x, api.OK, at(0, "aaa", 1), at(0, "bbb", 1), at(0, "ccc", 1))
	wantCells(t, y, 0)
	wantWrite(t, y, api.OK, at(0, "ccc", 1))
	wantCells(t, x, 3)
	wantCells(t, y, 1)
}
