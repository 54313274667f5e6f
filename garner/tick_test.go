package garner_test

import (
	"testing"

	"garner/api"
)

func TestTickNumbers(t *testing.T) {
	x := begin(t, example2())
	numbers := append([]int{-1000, -1, 0, 1001, 1002, 65537, 100000, 100001}, extremes...)
	for _, n := range numbers {
		wantTick(t, x, n, api.ErrArg)
	}
	for n := 1; n <= 1000; n++ {
		y := begin(t, example2())
		wantTick(t, y, n, api.OK)
		wantTick(t, y, n, api.OK)
	}
}

func TestTickToTheEnd(t *testing.T) {
	for _, now := range []int{99000, 99001, 99500, 99999, 100000} {
		x := beginAt(t, example2(), now)
		for _, n := range extremes {
			wantTick(t, x, n, api.ErrArg)
		}
		for _, n := range []int{0, 1001, 100001 - now} {
			wantTick(t, x, n, api.ErrArg)
		}
		if now < 100000 {
			wantTick(t, x, 100000-now, api.OK)
		}
		wantTick(t, x, 1, api.ErrArg)
		wantTick(t, x, 1000, api.ErrArg)
	}
}

// A Tick that is refused changes nothing of what is kept.
func TestTickRefused(t *testing.T) {
	x := beginAt(t, least(), 100000)
	wantWrite(t, x, api.OK, at(100000, "abc", 3))
	wantTick(t, x, 1, api.ErrArg)
	wantTick(t, x, 0, api.ErrArg)
	wantRows(t, x, ask(100000, 100001, 1, "...", "000"), row(0, "...", 1, 3, 3, 3))
}

// Each store has its own time.
func TestTickOneStore(t *testing.T) {
	x, y := begin(t, example2()), begin(t, example2())
	wantTick(t, x, 7, api.OK)
	wantTick(t, y, 3, api.OK)
	if x.Now() != 7 || y.Now() != 3 {
		t.Errorf("P2: two stores: %d, %d, want 7, 3", x.Now(), y.Now())
	}
}
