package garner_test

import (
	"math"
	"testing"

	"garner/api"
)

func TestQueryWrongTimes(t *testing.T) {
	x := beginAt(t, one(10, 19), 50)
	wantWrite(t, x, api.OK, at(0, "abc", 1))
	for _, q := range []api.Query{
		ask(-1, 1, 1, "...", "000"), ask(-10, 10, 10, "...", "000"), ask(0, 0, 1, "...", "000"), ask(7, 7, 1, "...", "000"), ask(8, 7, 1, "...", "000"),
		ask(0, 10, 0, "...", "000"), ask(0, 10, -1, "...", "000"), ask(0, 10, -10, "...", "000"),
		ask(0, 10, 3, "...", "000"), ask(0, 10, 11, "...", "000"), ask(0, 10, 20, "...", "000"), ask(1, 10, 10, "...", "000"),
		ask(0, 21, 1, "...", "000"), ask(5, 26, 1, "...", "000"), ask(0, 42, 2, "...", "000"), ask(0, 100100, 5004, "...", "000"), ask(0, 100100, 4550, "...", "000"),
		ask(0, 100101, 100101, "...", "000"), ask(100100, 100101, 1, "...", "000"), ask(100, 100101, 100001, "...", "000"),
		{}, {Match: "...", By: "000"},
	} {
		wantNoRows(t, x, q, api.ErrQuery)
	}
	for _, q := range []api.Query{
		ask(0, 1, 1, "...", "000"), ask(0, 20, 1, "...", "000"), ask(0, 40, 2, "...", "000"), ask(0, 100100, 5005, "...", "000"), ask(0, 100100, 100100, "...", "000"), ask(0, 10, 10, "...", "000"),
	} {
		wantRows(t, x, q, row(0, "...", 1, 1, 1, 1))
	}
	wantRows(t, x, ask(100099, 100100, 1, "...", "000"))
	wantRows(t, x, ask(1, 21, 1, "...", "000"))
}

// Numbers far beyond every bound, in all places together.
func TestQueryExtremes(t *testing.T) {
	x := beginAt(t, one(10, 19), 50)
	numbers := append([]int{-1, 0, 1, 20, math.MaxInt / 20, math.MaxInt/20 + 1, math.MinInt / 20}, extremes...)
	for _, from := range numbers {
		for _, to := range numbers {
			for _, step := range numbers {
				if from >= 0 && from < to && to <= 20 && step >= 1 && (to-from)%step == 0 {
					wantRows(t, x, ask(from, to, step, "...", "000"))
				} else {
					wantNoRows(t, x, ask(from, to, step, "...", "000"), api.ErrQuery)
				}
			}
		}
	}
}

func TestQueryMatchAndBy(t *testing.T) {
	x := beginAt(t, one(10, 19), 50)
	for _, s := range []string{"", ".", "..", "....", "......", "abc.", "\x00\x00\x00", "***", "é.", "000", "kkk0"} {
		wantNoRows(t, x, ask(0, 10, 1, s, "000"), api.ErrQuery)
	}
	for _, s := range []string{"", "0", "00", "0000", "1111", "...", "abc", "\x00\x00\x00", "\x01\x01\x01", "---"} {
		wantNoRows(t, x, ask(0, 10, 1, "...", s), api.ErrQuery)
	}
	for key := range 3 {
		for b := range 256 {
			match, by := []byte("..."), []byte("000")
			match[key], by[key] = byte(b), byte(b)
			if b == '.' || isLabel(byte(b)) {
				wantRows(t, x, ask(0, 10, 1, string(match), "000"))
			} else {
				wantNoRows(t, x, ask(0, 10, 1, string(match), "000"), api.ErrQuery)
			}
			if b == '0' || b == '1' {
				wantRows(t, x, ask(0, 10, 1, "...", string(by)))
			} else {
				wantNoRows(t, x, ask(0, 10, 1, "...", string(by)), api.ErrQuery)
			}
		}
	}
}

// The error that is named first is the answer.
func TestQueryFirstError(t *testing.T) {
	c := api.Config{Span: 10, Keep: 3, Levels: []api.Level{
		{Age: 0, Window: 1, Rule: "kkk", Limit: 20},
		{Age: 1, Window: 5, Rule: "kdg", Limit: 20},
	}}
	x := beginAt(t, c, 45)
	wantNoRows(t, x, ask(1, 5, 3, ".b.", "000"), api.ErrQuery)
	wantNoRows(t, x, ask(1, 5, 2, ".b.", "00"), api.ErrQuery)
	wantNoRows(t, x, ask(1, 5, 2, ".b.", "000"), api.ErrExpired)
	wantNoRows(t, x, ask(9, 49, 2, ".b.", "000"), api.ErrExpired)
	wantNoRows(t, x, ask(11, 15, 2, ".b.", "000"), api.ErrLost)
	wantNoRows(t, x, ask(11, 15, 2, "...", "001"), api.ErrLost)
	wantNoRows(t, x, ask(11, 15, 2, "a..", "100"), api.ErrWindow)
	wantRows(t, x, ask(10, 20, 5, "a..", "100"))
	wantRows(t, x, ask(41, 45, 2, ".b.", "111"))
}

// The block of From decides whether a query is expired, at the times around its end.
func TestQueryExpired(t *testing.T) {
	x := beginAt(t, one(10, 3), 39)
	wantWrite(t, x, api.OK, at(9, "abc", 1), at(10, "abc", 2))
	wantRows(t, x, ask(9, 11, 1, "...", "000"), row(0, "...", 1, 1, 1, 1), row(1, "...", 1, 2, 2, 2))
	wantTick(t, x, 1, api.OK)
	wantNoRows(t, x, ask(9, 11, 1, "...", "000"), api.ErrExpired)
	wantNoRows(t, x, ask(0, 1, 1, "...", "000"), api.ErrExpired)
	wantRows(t, x, ask(10, 11, 1, "...", "000"), row(0, "...", 1, 2, 2, 2))
	y := beginAt(t, one(100, 0), 100000)
	wantNoRows(t, y, ask(99999, 100000, 1, "...", "000"), api.ErrExpired)
	wantRows(t, y, ask(100000, 100100, 5, "...", "000"))
}

// agingConfig: each level loses another key, and has wider windows.
func agingConfig() api.Config {
	return api.Config{Span: 12, Keep: 9, Levels: []api.Level{
		{Age: 0, Window: 1, Rule: "kkk", Limit: 20},
		{Age: 2, Window: 3, Rule: "kkg", Limit: 20},
		{Age: 4, Window: 6, Rule: "kdk", Limit: 20},
		{Age: 6, Window: 12, Rule: "kkk", Limit: 20},
	}}
}

// What a level ahead lost stays lost, though the level's own rule keeps the key.
func TestQueryLost(t *testing.T) {
	x := beginAt(t, agingConfig(), 5)
	wantWrite(t, x, api.OK, at(0, "abc", 1), at(0, "xyz", 2))
	for _, c := range []struct {
		now  int
		lost [3]bool
	}{
		{12, [3]bool{}}, {23, [3]bool{}}, {24, [3]bool{false, false, true}}, {47, [3]bool{false, false, true}},
		{48, [3]bool{false, true, true}}, {71, [3]bool{false, true, true}}, {72, [3]bool{false, true, true}}, {119, [3]bool{false, true, true}},
	} {
		tickTo(t, x, c.now)
		for key, gone := range c.lost {
			for _, b := range []byte("abcz-") {
				match, by := []byte("..."), []byte("000")
				match[key], by[key] = b, '1'
				for _, q := range []api.Query{ask(0, 12, 12, string(match), "000"), ask(0, 12, 12, "...", string(by)), ask(0, 12, 12, string(match), string(by)), ask(0, 240, 12, string(match), "000")} {
					_, e := x.Query(q)
					if gone != (e == api.ErrLost) || !gone && e != api.OK {
						t.Errorf("P9: at %d Query(%+v) = %d, lost: %t", c.now, q, e, gone)
					}
				}
			}
		}
	}
	tickTo(t, x, 120)
	wantNoRows(t, x, ask(0, 12, 12, ".b.", "000"), api.ErrExpired)
}

// From and Step must be multiples of the windows of all blocks that are asked for.
func TestQueryWindows(t *testing.T) {
	x := begin(t, agingConfig())
	for _, c := range []struct{ now, window int }{{0, 1}, {23, 1}, {24, 3}, {47, 3}, {48, 6}, {71, 6}, {72, 12}, {119, 12}} {
		tickTo(t, x, c.now)
		for from := range 13 {
			for step := 1; step <= 24; step++ {
				for steps := 1; steps <= 3; steps++ {
					window := c.window
					if from == 12 {
						// The next block is younger.
						window = 1
						for _, l := range agingConfig().Levels {
							if l.Age <= c.now/12-1 {
								window = l.Window
							}
						}
					}
					want := api.OK
					if from%window != 0 || step%window != 0 {
						want = api.ErrWindow
					}
					if got, e := x.Query(ask(from, from+step*steps, step, "...", "000")); len(got) != 0 || e != want {
						t.Errorf("P9: at %d from %d in %d steps of %d: %+v, %d, want %d", c.now, from, steps, step, got, e, want)
					}
				}
			}
		}
	}
}

// A younger block does not mend what an older one has lost.
func TestQueryOverBlocks(t *testing.T) {
	x := beginAt(t, agingConfig(), 30)
	wantWrite(t, x, api.OK, at(7, "abc", 1), at(20, "abz", 2), at(30, "abz", 4))
	wantNoRows(t, x, ask(6, 30, 3, "...", "001"), api.ErrLost)
	wantNoRows(t, x, ask(6, 26, 1, "...", "010"), api.ErrWindow)
	wantNoRows(t, x, ask(11, 13, 1, "...", "010"), api.ErrWindow)
	wantRows(t, x, ask(12, 32, 1, "...", "001"), row(8, "..z", 1, 2, 2, 2), row(18, "..z", 1, 4, 4, 4))
	wantRows(t, x, ask(6, 36, 6, "...", "010"), row(0, ".b.", 1, 1, 1, 1), row(2, ".b.", 1, 2, 2, 2), row(4, ".b.", 1, 4, 4, 4))
}

// The group *** stands ahead of all, then -, then . and the letters; steps come first.
func TestQueryOrder(t *testing.T) {
	c := one(10, 3)
	c.Levels[0].Limit = 6
	x := beginAt(t, c, 9)
	wantWrite(t, x, api.OK, at(9, "zzz", 1), at(9, "a--", 2), at(9, "-zz", 4), at(0, "zaa", 8), at(0, "azz", 16))
	wantWrite(t, x, api.OK, at(0, "---", 32), at(9, "bbb", 64), at(0, "ccc", 128))
	wantRows(t, x, ask(0, 10, 5, "...", "111"),
		row(0, "***", 1, 128, 128, 128), row(0, "---", 1, 32, 32, 32), row(0, "azz", 1, 16, 16, 16), row(0, "zaa", 1, 8, 8, 8),
		row(1, "***", 1, 64, 64, 64), row(1, "-zz", 1, 4, 4, 4), row(1, "a--", 1, 2, 2, 2), row(1, "zzz", 1, 1, 1, 1))
	wantRows(t, x, ask(0, 10, 10, "...", "010"),
		row(0, "***", 2, 192, 64, 128), row(0, ".-.", 2, 34, 2, 32), row(0, ".a.", 1, 8, 8, 8), row(0, ".z.", 3, 21, 1, 16))
	wantRows(t, x, ask(0, 10, 10, "...", "001"),
		row(0, "***", 2, 192, 64, 128), row(0, "..-", 2, 34, 2, 32), row(0, "..a", 1, 8, 8, 8), row(0, "..z", 3, 21, 1, 16))
}

// A Match leaves out what has another byte, but never ***.
func TestQueryMatch(t *testing.T) {
	c := one(10, 3)
	c.Levels[0].Limit = 3
	x := beginAt(t, c, 9)
	wantWrite(t, x, api.OK, at(1, "abc", 1), at(2, "abd", 2), at(3, "-bc", 4), at(4, "q--", 8))
	out := row(0, "***", 1, 8, 8, 8)
	wantRows(t, x, ask(0, 10, 10, "a..", "000"), out, row(0, "...", 2, 3, 1, 2))
	wantRows(t, x, ask(0, 10, 10, "-..", "000"), out, row(0, "...", 1, 4, 4, 4))
	wantRows(t, x, ask(0, 10, 10, "..c", "100"), out, row(0, "-..", 1, 4, 4, 4), row(0, "a..", 1, 1, 1, 1))
	wantRows(t, x, ask(0, 10, 10, "abd", "000"), out, row(0, "...", 1, 2, 2, 2))
	wantRows(t, x, ask(0, 10, 10, "abd", "111"), out, row(0, "abd", 1, 2, 2, 2))
	wantRows(t, x, ask(0, 10, 10, "z..", "010"), out)
	wantRows(t, x, ask(0, 4, 4, "z..", "010"))
}

// Sums do not overflow, and the least and greatest are told apart from 0.
func TestQueryValues(t *testing.T) {
	for _, v := range []int32{math.MinInt32, math.MaxInt32, -1, 0, 1} {
		x := begin(t, one(10, 3))
		for range 125 {
			wantWrite(t, x, api.OK, at(0, "abc", v), at(0, "abd", v), at(0, "abe", v), at(0, "---", v))
		}
		wantRows(t, x, ask(0, 10, 10, "...", "000"), row(0, "...", 500, 500*int64(v), v, v))
		wantRows(t, x, ask(0, 10, 10, "a..", "010"), row(0, ".b.", 375, 375*int64(v), v, v))
	}
	x := begin(t, one(10, 3))
	wantWrite(t, x, api.OK, at(0, "abc", 3), at(0, "abc", math.MinInt32), at(0, "abc", math.MaxInt32), at(0, "abc", -3))
	wantRows(t, x, ask(0, 1, 1, "...", "000"), row(0, "...", 4, -1, math.MinInt32, math.MaxInt32))
}

// Steps take their first time and leave the next one's.
func TestQuerySteps(t *testing.T) {
	x := beginAt(t, one(10, 19), 60)
	for time := range 61 {
		wantWrite(t, x, api.OK, at(time, "abc", int32(time)))
	}
	wantRows(t, x, ask(7, 28, 7, "...", "000"), row(0, "...", 7, 70, 7, 13), row(1, "...", 7, 119, 14, 20), row(2, "...", 7, 168, 21, 27))
	wantRows(t, x, ask(60, 61, 1, "...", "000"), row(0, "...", 1, 60, 60, 60))
	wantRows(t, x, ask(59, 79, 1, "...", "000"), row(0, "...", 1, 59, 59, 59), row(1, "...", 1, 60, 60, 60))
	wantRows(t, x, ask(61, 81, 1, "...", "000"))
}

// Rows are the caller's; a question changes nothing.
func TestQueryOwn(t *testing.T) {
	x := beginAt(t, one(10, 19), 9)
	wantWrite(t, x, api.OK, at(0, "abc", 1), at(1, "abd", 2), at(2, "abe", 3))
	q := ask(0, 10, 1, "...", "001")
	want := []api.Row{row(0, "..c", 1, 1, 1, 1), row(1, "..d", 1, 2, 2, 2), row(2, "..e", 1, 3, 3, 3)}
	first, _ := x.Query(q)
	second, _ := x.Query(q)
	first = first[:cap(first)]
	for i := range first {
		first[i] = api.Row{Step: 7}
	}
	if !sameRows(second, want) {
		t.Errorf("P2: handed out earlier: %+v", second)
	}
	for range 3 {
		wantRows(t, x, q, want...)
		wantNoRows(t, x, ask(0, 10, 3, "...", "001"), api.ErrQuery)
		if x.Now() != 9 {
			t.Errorf("P2: Now() = %d behind a question", x.Now())
		}
	}
	y := begin(t, one(10, 19))
	wantRows(t, y, q)
	wantWrite(t, y, api.OK, at(0, "zzz", 9))
	wantRows(t, x, q, want...)
}
