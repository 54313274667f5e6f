// Package cell: which samples make up a cell together.
package cell

import (
	"garner/api"
	"garner/block"
	"garner/series"
)

// key: what the points of one cell have in common.
type key struct {
	// start is the first time of the window. No window reaches over the end of a block,
	// so that it tells the block as well.
	start int
	name  api.Labels
}

// Count tells how many cells the points make up, none of which is expired.
func Count(c api.Config, now int, points []series.Point) int {
	var keys []key
	for i := 0; i < len(points); i++ {
		k := keyOf(c, now, points[i])
		if !has(keys, k) {
			keys = append(keys, k)
		}
	}
	return len(keys)
}

// keyOf tells the key of the cell to which a point belongs.
func keyOf(c api.Config, now int, p series.Point) key {
	level := block.Level(c, now, p.At)
	start := windowStart(c.Levels, level, p.At)
	name := p.Of(level)
	return key{start: start, name: name}
}

// windowStart tells the first time of the window of a level in which the time t is.
func windowStart(levels []api.Level, level, t int) int {
	if level < 0 || level >= len(levels) {
		return t
	}
	window := levels[level].Window
	if window < 1 {
		return t
	}
	return t - t%window
}

// has tells whether a key is in the list.
func has(keys []key, k key) bool {
	for i := 0; i < len(keys); i++ {
		if keys[i] == k {
			return true
		}
	}
	return false
}
