package series

import (
	"math"
	"testing"

	"garner/api"
)

// sample: of some labels.
func sample(labels string) api.Sample {
	return api.Sample{At: 5, Labels: api.Labels{labels[0], labels[1], labels[2]}, Value: -3}
}

// wantPoint looks at the series of what is entered next.
func wantPoint(t *testing.T, b *Book, levels []api.Level, labels string, want ...string) {
	t.Helper()
	p := b.Enter(levels, sample(labels))
	if p.At != 5 || p.Value != -3 {
		t.Errorf("%s became %+v", labels, p)
	}
	for i, s := range want {
		name := p.Of(i)
		if string(name[:]) != s {
			t.Errorf("%s has the series %q at level %d, want %q", labels, name, i, s)
		}
	}
}

func TestEnter(t *testing.T) {
	levels := []api.Level{{Rule: "kkg", Limit: 4}, {Rule: "kdk", Limit: 2}, {Rule: "dkk", Limit: 1}, {Rule: "kkk", Limit: 9}}
	b := &Book{}
	wantPoint(t, b, levels, "abc", "aba", "a-a", "--a", "--a")
	wantPoint(t, b, levels, "abm", "aba", "a-a", "--a", "--a")
	wantPoint(t, b, levels, "abz", "abn", "a-n", "***", "***")
	wantPoint(t, b, levels, "bba", "bba", "***", "***", "***")
	wantPoint(t, b, levels, "aqa", "aqa", "a-a", "--a", "--a")
	// Full at level 0; a-a is admitted at level 1, but is not asked for.
	wantPoint(t, b, levels, "axa", "***", "***", "***", "***")
	wantPoint(t, b, levels, "bbm", "bba", "***", "***", "***")
	wantPoint(t, b, levels, "abc", "aba", "a-a", "--a", "--a")
	// Another book has room of its own.
	wantPoint(t, &Book{}, levels, "axa", "axa", "a-a", "--a", "--a")
}

// A series that is admitted at one level takes no room at another.
func TestEnterRoomOfEachLevel(t *testing.T) {
	levels := []api.Level{{Rule: "kkk", Limit: 2}, {Rule: "kkk", Limit: 1}, {Rule: "kkk", Limit: 2}}
	b := &Book{}
	wantPoint(t, b, levels, "aaa", "aaa", "aaa", "aaa")
	wantPoint(t, b, levels, "bbb", "bbb", "***", "***")
	wantPoint(t, b, levels, "ccc", "***", "***", "***")
	wantPoint(t, b, levels, "aaa", "aaa", "aaa", "aaa")
}

// Levels that cannot be, wrong rules and wrong labels do not make a function panic.
func TestWrongInputs(t *testing.T) {
	p := Point{Series: [api.MaxLevels]api.Labels{{'a'}, {'b'}, {'c'}, {'d'}}}
	for _, level := range []int{math.MinInt, -1, api.MaxLevels, math.MaxInt} {
		if p.Of(level) != Rest() {
			t.Errorf("Of(%d) = %q", level, p.Of(level))
		}
	}
	if p.Of(3) != (api.Labels{'d'}) {
		t.Errorf("Of(3) = %q", p.Of(3))
	}
	b := &Book{}
	wantPoint(t, b, make([]api.Level, 9), "abc", "***", "***", "***", "***")
	wantPoint(t, b, []api.Level{{Rule: "kkk", Limit: 1}}, "a*c", "***")
	wantPoint(t, b, []api.Level{{Rule: "kkk", Limit: 1}}, "abc", "abc")
}
