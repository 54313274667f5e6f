package block

import (
	"testing"

	"garner/api"
)

// config: levels from the ages 0, 2 and 3 on.
func config(span int) api.Config {
	return api.Config{Span: span, Keep: 4, Levels: []api.Level{{Age: 0}, {Age: 2}, {Age: 3}}}
}

// By the document's words: the age, whether it is expired, and the level, around each of the ends of blocks.
func TestBlocks(t *testing.T) {
	for _, c := range []struct {
		now, t, age, level int
		expired            bool
	}{
		{0, 0, 0, 0, false}, {9, 0, 0, 0, false}, {9, 9, 0, 0, false}, {0, 9, 0, 0, false}, {0, 10, -1, 0, false}, {9, 100099, -10009, 0, false},
		{10, 9, 1, 0, false}, {19, 0, 1, 0, false}, {20, 9, 2, 1, false}, {20, 10, 1, 0, false}, {29, 0, 2, 1, false},
		{30, 0, 3, 2, false}, {49, 0, 4, 2, false}, {50, 9, 5, 2, true}, {50, 10, 4, 2, false}, {100000, 0, 10000, 2, true},
	} {
		if n := Age(config(10), c.now, c.t); n != c.age {
			t.Errorf("Age of %d at %d = %d, want %d", c.t, c.now, n, c.age)
		}
		if n := Level(config(10), c.now, c.t); n != c.level {
			t.Errorf("Level of %d at %d = %d, want %d", c.t, c.now, n, c.level)
		}
		if b := Expired(config(10), c.now, c.t); b != c.expired {
			t.Errorf("Expired of %d at %d = %t, want %t", c.t, c.now, b, c.expired)
		}
	}
}

// A configuration that is not right does not make a function panic.
func TestWrongConfiguration(t *testing.T) {
	for _, span := range []int{0, -1} {
		if n := Age(config(span), 50, 10); n != 0 {
			t.Errorf("Age with the Span %d = %d", span, n)
		}
	}
	if n := Level(api.Config{Span: 10}, 50, 10); n != 0 {
		t.Errorf("Level without levels = %d", n)
	}
}
