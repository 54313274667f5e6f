// Package series: which series samples have at each level.
package series

import (
	"garner/api"
	"garner/label"
)

// Point: what is kept of an accepted sample; its series stand level by level.
type Point struct {
	At     int
	Value  int32
	Series [api.MaxLevels]api.Labels
}

// Of tells the series of a point at a level, *** at a level that cannot be.
func (p Point) Of(level int) api.Labels {
	if level < 0 || level >= api.MaxLevels {
		return Rest()
	}
	return p.Series[level]
}

// Rest tells the series of what was not admitted.
func Rest() api.Labels {
	return api.Labels{'*', '*', '*'}
}

// admission: a series that was admitted at a level.
type admission struct {
	level int
	name  api.Labels
}

// Book: all series that were admitted so far, at all levels.
type Book struct {
	list []admission
}

// Enter makes a point of a sample that is accepted, and admits the series that there is room for.
func (b *Book) Enter(levels []api.Level, x api.Sample) Point {
	p := Point{At: x.At, Value: x.Value}
	name := x.Labels
	for i := 0; i < len(levels) && i < api.MaxLevels; i++ {
		name = b.give(i, levels[i], name)
		p.Series[i] = name
	}
	return p
}

// give tells the series at a level of what had the series ahead at the level ahead of it.
func (b *Book) give(number int, level api.Level, ahead api.Labels) api.Labels {
	if ahead == Rest() {
		return ahead
	}
	asked, err := label.Project(level.Rule, ahead)
	if err != api.OK {
		return Rest()
	}
	if b.has(number, asked) {
		return asked
	}
	if b.count(number) >= level.Limit {
		return Rest()
	}
	b.list = append(b.list, admission{level: number, name: asked})
	return asked
}

// has tells whether a series was admitted at a level.
func (b *Book) has(level int, name api.Labels) bool {
	for i := 0; i < len(b.list); i++ {
		if b.list[i].level == level && b.list[i].name == name {
			return true
		}
	}
	return false
}

// count tells how many series were admitted at a level.
func (b *Book) count(level int) int {
	n := 0
	for i := 0; i < len(b.list); i++ {
		if b.list[i].level == level {
			n++
		}
	}
	return n
}
