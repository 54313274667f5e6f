package cell

import (
	"math"
	"testing"

	"garner/api"
	"garner/series"
)

// config: two levels, the second from the age 1 on.
func config() api.Config {
	return api.Config{Span: 10, Keep: 3, Levels: []api.Level{
		{Age: 0, Window: 2, Rule: "kkk", Limit: 9},
		{Age: 1, Window: 5, Rule: "kdk", Limit: 9},
	}}
}

// point: one with the series fine at level 0 and coarse at level 1.
func point(at int, fine, coarse string) series.Point {
	p := series.Point{At: at, Value: int32(at)}
	copy(p.Series[0][:], fine)
	copy(p.Series[1][:], coarse)
	return p
}

// The points of one cell have the block, the window and the series of the block's level in common.
func TestCount(t *testing.T) {
	points := []series.Point{
		point(0, "abc", "a-c"), point(1, "abc", "a-c"), // one window at both levels
		point(2, "abc", "a-c"), point(4, "abc", "a-c"), point(5, "abc", "a-c"), // 4 and 5: one window at level 0 alone
		point(0, "adc", "a-c"), point(1, "***", "***"), // one series at level 1 alone, and one that is ***
		point(10, "abc", "a-c"), point(11, "***", "***"), // another block
	}
	for _, c := range []struct{ count, early, late int }{
		{0, 0, 0}, {1, 1, 1}, {2, 1, 1}, {3, 2, 1}, {4, 3, 1}, {5, 3, 2}, {6, 4, 2}, {7, 5, 3}, {8, 6, 4}, {9, 7, 5},
	} {
		if n := Count(config(), 9, points[:c.count]); n != c.early {
			t.Errorf("cells of %d points at 9: %d, want %d", c.count, n, c.early)
		}
		for _, now := range []int{10, 19, 20, 39} {
			if n := Count(config(), now, points[:c.count]); n != c.late {
				t.Errorf("cells of %d points at %d: %d, want %d", c.count, now, n, c.late)
			}
		}
	}
}

// At one time, blocks have different levels: each is counted by its own.
func TestCountBlocksOfTwoLevels(t *testing.T) {
	c := config()
	c.Span = 2
	c.Levels[0].Window = 1
	c.Levels[1].Window = 2
	points := []series.Point{point(0, "a--", "a--"), point(1, "a--", "a--"), point(2, "a--", "a--"), point(3, "a--", "a--")}
	for _, want := range []struct{ now, cells int }{{1, 4}, {2, 3}, {3, 3}, {4, 2}, {6, 2}} {
		if n := Count(c, want.now, points); n != want.cells {
			t.Errorf("cells at %d: %d, want %d", want.now, n, want.cells)
		}
	}
}

// A configuration that is not right does not make a function panic.
func TestWrongInputs(t *testing.T) {
	for _, level := range []int{math.MinInt, -1, 2, math.MaxInt} {
		if n := windowStart(config().Levels, level, 7); n != 7 {
			t.Errorf("the window of the level %d starts at %d", level, n)
		}
	}
	for _, window := range []int{math.MinInt, -1, 0} {
		if n := windowStart([]api.Level{{Window: window}}, 0, 7); n != 7 {
			t.Errorf("the window %d starts at %d", window, n)
		}
	}
	if n := Count(api.Config{}, 9, []series.Point{point(7, "abc", "a-c"), point(8, "abc", "a-c")}); n != 2 {
		t.Errorf("cells without levels: %d", n)
	}
}

// Count neither changes the points nor the order in which they stand.
func TestCountWritesIntoNothing(t *testing.T) {
	room := []series.Point{point(7, "abc", "a-c"), point(2, "abc", "a-c"), point(7, "abc", "a-c"), point(1, "***", "***")}
	want := append([]series.Point{}, room...)
	for count := range len(room) + 1 {
		Count(config(), 9, room[:count])
		for i := range room {
			if room[i] != want[i] {
				t.Errorf("the point %d became %+v", i, room[i])
			}
		}
	}
}
