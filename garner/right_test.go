package garner_test

import (
	"testing"

	"garner/api"
	"garner/garner"
)

// three: a right configuration, of three levels.
func three() api.Config {
	return api.Config{Span: 12, Keep: 5, Levels: []api.Level{
		{Age: 0, Window: 1, Rule: "kkk", Limit: 9},
		{Age: 2, Window: 3, Rule: "kgk", Limit: 4},
		{Age: 5, Window: 6, Rule: "kdd", Limit: 2},
	}}
}

// greatest: every number at its greatest.
func greatest() api.Config {
	return api.Config{Span: 100, Keep: 19, Levels: []api.Level{
		{Age: 0, Window: 100, Rule: "kkk", Limit: 20},
		{Age: 17, Window: 100, Rule: "ggg", Limit: 20},
		{Age: 18, Window: 100, Rule: "ddd", Limit: 20},
		{Age: 19, Window: 100, Rule: "kgd", Limit: 20},
	}}
}

// least: every number at its least.
func least() api.Config {
	return api.Config{Span: 1, Keep: 0, Levels: []api.Level{{Age: 0, Window: 1, Rule: "ddd", Limit: 1}}}
}

func wantRight(t *testing.T, what string, c api.Config, want api.Errno) {
	t.Helper()
	if e := garner.Right(c); e != want {
		t.Errorf("P3: %s: Right(%+v) = %d, want %d", what, c, e, want)
	}
}

func TestRightOnes(t *testing.T) {
	wantRight(t, "three levels", three(), api.OK)
	wantRight(t, "all greatest", greatest(), api.OK)
	wantRight(t, "all least", least(), api.OK)
	c := three()
	c.Levels[1].Window, c.Levels[2].Window = 1, 1
	wantRight(t, "equal windows", c, api.OK)
	c = three()
	c.Levels[1].Rule, c.Levels[2].Rule = "ddd", "kkk"
	wantRight(t, "a level that keeps what the one ahead drops", c, api.OK)
	c = three()
	c.Keep = 19
	wantRight(t, "a last age below Keep", c, api.OK)
	c = three()
	c.Levels[0].Limit, c.Levels[2].Limit = 1, 20
	wantRight(t, "limits that rise", c, api.OK)
}

// wantOnly sets one number of a configuration to every value from -130 to 130 and to the extremes: it is right where ok says so.
func wantOnly(t *testing.T, what string, base func() api.Config, set func(c *api.Config, n int), ok func(n int) bool) {
	t.Helper()
	numbers := append([]int{}, extremes...)
	for n := -130; n <= 130; n++ {
		numbers = append(numbers, n)
	}
	for _, n := range numbers {
		c := base()
		set(&c, n)
		want := api.ErrConfig
		if ok(n) {
			want = api.OK
		}
		wantRight(t, what, c, want)
	}
}

// among tells whether n is one of the numbers.
func among(numbers ...int) func(n int) bool {
	return func(n int) bool {
		for _, m := range numbers {
			if n == m {
				return true
			}
		}
		return false
	}
}

// from tells whether n is from low to high.
func from(low, high int) func(n int) bool {
	return func(n int) bool { return low <= n && n <= high }
}

func TestRightSpanAndKeep(t *testing.T) {
	setSpan := func(c *api.Config, n int) { c.Span = n }
	wantOnly(t, "Span of window 1", least, setSpan, from(1, 100))
	wantOnly(t, "Span of windows 1, 3, 6", three, setSpan, func(n int) bool { return n > 0 && n <= 100 && n%6 == 0 })
	wantOnly(t, "Span of windows 100", greatest, setSpan, among(100))
	setKeep := func(c *api.Config, n int) { c.Keep = n }
	wantOnly(t, "Keep of age 0", least, setKeep, from(0, 19))
	wantOnly(t, "Keep of ages to 5", three, setKeep, from(5, 19))
}

func TestRightAges(t *testing.T) {
	for _, c := range []struct {
		level int
		ok    func(n int) bool
	}{
		{0, among(0)}, {1, from(1, 4)}, {2, from(3, 5)},
	} {
		wantOnly(t, "Age", three, func(x *api.Config, n int) { x.Levels[c.level].Age = n }, c.ok)
	}
	c := three()
	c.Levels[0].Age, c.Levels[1].Age, c.Levels[2].Age = 1, 2, 3
	wantRight(t, "a first age of 1", c, api.ErrConfig)
	c.Levels[0].Age, c.Levels[1].Age, c.Levels[2].Age = -2, -1, 0
	wantRight(t, "ages below 0", c, api.ErrConfig)
}

func TestRightWindows(t *testing.T) {
	for _, c := range []struct {
		level int
		ok    func(n int) bool
	}{
		{0, among(1, 3)}, {1, among(1, 2, 3, 6)}, {2, among(3, 6, 12)},
	} {
		wantOnly(t, "Window", three, func(x *api.Config, n int) { x.Levels[c.level].Window = n }, c.ok)
	}
	c := three()
	c.Levels[0].Window, c.Levels[1].Window = 2, 3
	wantRight(t, "both divide Span, 3 is no multiple of 2", c, api.ErrConfig)
	for _, n := range []int{0, -1, -3} {
		c = three()
		for i := range c.Levels {
			c.Levels[i].Window = n
		}
		wantRight(t, "windows all alike and below 1", c, api.ErrConfig)
	}
}

func TestRightLimits(t *testing.T) {
	for level := range 3 {
		wantOnly(t, "Limit", three, func(x *api.Config, n int) { x.Levels[level].Limit = n }, from(1, 20))
	}
}

func TestRightRules(t *testing.T) {
	for level := range 3 {
		for _, rule := range []string{"", "k", "kk", "kkkk", "kgdk", "KKK", "kk-", "...", "abc", "kkk\x00", "\x00\x00\x00"} {
			c := three()
			c.Levels[level].Rule = rule
			wantRight(t, "a wrong rule", c, api.ErrConfig)
		}
	}
}

func TestRightHowManyLevels(t *testing.T) {
	for count := range 25 {
		c := api.Config{Span: 1, Keep: 19}
		for age := range count {
			c.Levels = append(c.Levels, api.Level{Age: age, Window: 1, Rule: "kkk", Limit: 1})
		}
		want := api.ErrConfig
		if count >= 1 && count <= 4 {
			want = api.OK
		}
		wantRight(t, "how many levels", c, want)
	}
	wantRight(t, "nothing at all", api.Config{}, api.ErrConfig)
	c := three()
	c.Levels = []api.Level{}
	wantRight(t, "an empty list of levels", c, api.ErrConfig)
	c.Levels = make([]api.Level, 1000000)
	wantRight(t, "very many levels", c, api.ErrConfig)
}
