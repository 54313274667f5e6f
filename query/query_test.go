package query

import (
	"math"
	"testing"

	"garner/api"
	"garner/series"
)

// config: two levels, the second from the age 1 on.
func config() api.Config {
	return api.Config{Span: 10, Keep: 3, Levels: []api.Level{
		{Age: 0, Window: 1, Rule: "kkk", Limit: 9},
		{Age: 1, Window: 5, Rule: "kdg", Limit: 9},
	}}
}

func TestCheck(t *testing.T) {
	for _, c := range []struct {
		now  int
		q    api.Query
		want api.Errno
	}{
		{9, api.Query{From: 1, To: 3, Step: 2, Match: ".b.", By: "001"}, api.OK},
		{10, api.Query{From: 1, To: 3, Step: 2, Match: ".b.", By: "001"}, api.ErrLost},
		{10, api.Query{From: 1, To: 6, Step: 5, Match: "a..", By: "100"}, api.ErrWindow},
		{10, api.Query{From: 0, To: 2, Step: 2, Match: "a..", By: "100"}, api.ErrWindow},
		{39, api.Query{From: 0, To: 5, Step: 5, Match: "a..", By: "100"}, api.OK},
		{40, api.Query{From: 0, To: 5, Step: 5, Match: "a..", By: "100"}, api.ErrExpired},
		{40, api.Query{From: 0, To: 5, Step: 5, Match: "a..", By: ""}, api.ErrQuery},
	} {
		if e := Check(config(), c.now, c.q); e != c.want {
			t.Errorf("Check(%+v) at %d = %d, want %d", c.q, c.now, e, c.want)
		}
	}
}

// A configuration or query that is not right does not make a function panic.
func TestWrongInputs(t *testing.T) {
	q := api.Query{From: 0, To: 10, Step: 5, Match: "...", By: "100"}
	for _, level := range []int{math.MinInt, -1, 2, math.MaxInt} {
		if fits(config().Levels, level, q) {
			t.Errorf("fits a level %d", level)
		}
	}
	for _, window := range []int{math.MinInt, -1, 0} {
		if fits([]api.Level{{Window: window}}, 0, q) {
			t.Errorf("fits the window %d", window)
		}
	}
	for _, s := range []string{"", "k", "dd", "dddd"} {
		if loses(s, q) {
			t.Errorf("%q loses a key", s)
		}
		if loses("ddd", api.Query{Match: s, By: "111"}) || loses("ddd", api.Query{Match: "aaa", By: s}) {
			t.Errorf("%q names a key", s)
		}
		if g, ok := groupOf(api.Query{Match: s, By: "000"}, api.Labels{'k', 'd', 'd'}); ok || g != (api.Labels{}) {
			t.Errorf("the group of the Match %q: %q, %t", s, g, ok)
		}
		if g, ok := groupOf(api.Query{Match: "...", By: s}, api.Labels{'k', 'd', 'd'}); ok || g != (api.Labels{}) {
			t.Errorf("the group of the By %q: %q, %t", s, g, ok)
		}
	}
	if !lost(config().Levels, math.MaxInt, api.Query{Match: "...", By: "010"}) || lost(config().Levels, math.MaxInt, q) || lost(config().Levels, -1, q) {
		t.Errorf("lost at levels that cannot be")
	}
	points := []series.Point{{At: 1, Value: 1}}
	for _, step := range []int{math.MinInt, -1, 0} {
		if l := Rows(config(), 5, api.Query{From: 0, To: 10, Step: step, Match: "...", By: "000"}, points); l != nil {
			t.Errorf("rows of the step %d: %+v", step, l)
		}
	}
}

// Rows neither changes the points nor the order in which they stand.
func TestRowsWritesIntoNothing(t *testing.T) {
	name := [api.MaxLevels]api.Labels{{'a', 'b', 'c'}, {'a', '-', 'a'}}
	points := []series.Point{{At: 7, Value: 1, Series: name}, {At: 2, Value: 2, Series: name}, {At: 7, Value: 4, Series: name}}
	want := append([]series.Point{}, points...)
	l := Rows(config(), 9, api.Query{From: 0, To: 10, Step: 5, Match: "...", By: "001"}, points)
	if len(l) != 2 || l[0].Sum != 2 || l[1].Sum != 5 {
		t.Errorf("rows: %+v", l)
	}
	for i := range points {
		if points[i] != want[i] {
			t.Errorf("the point %d became %+v", i, points[i])
		}
	}
}

// Rows that stand for the same are none ahead of the other.
func TestBefore(t *testing.T) {
	a := api.Row{Step: 1, Group: api.Labels{'a', '.', '-'}}
	b := api.Row{Step: 1, Group: api.Labels{'a', '.', 'a'}}
	c := api.Row{Step: 2, Group: api.Labels{'*', '*', '*'}}
	for _, pair := range [][2]api.Row{{a, b}, {a, c}, {b, c}} {
		if !before(pair[0], pair[1]) || before(pair[1], pair[0]) || before(pair[0], pair[0]) {
			t.Errorf("%+v stands not ahead of %+v", pair[0], pair[1])
		}
	}
}
