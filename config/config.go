// Package config: which configurations are right.
package config

import (
	"garner/api"
	"garner/label"
)

// Right tells whether a configuration is right.
func Right(c api.Config) bool {
	if c.Span < 1 || c.Span > api.MaxSpan {
		return false
	}
	if c.Keep < 0 || c.Keep > api.MaxKeep {
		return false
	}
	if len(c.Levels) < 1 || len(c.Levels) > api.MaxLevels {
		return false
	}
	if !rightAges(c.Levels, c.Keep) {
		return false
	}
	if !rightWindows(c.Levels, c.Span) {
		return false
	}
	return rightSeries(c.Levels)
}

// rightAges tells whether the ages begin with 0, rise, and are at most keep.
func rightAges(levels []api.Level, keep int) bool {
	for i := 0; i < len(levels); i++ {
		age := levels[i].Age
		if i == 0 && age != 0 {
			return false
		}
		if i > 0 && age <= levels[i-1].Age {
			return false
		}
		if age > keep {
			return false
		}
	}
	return true
}

// rightWindows tells whether each window is a multiple of the one ahead of it and divides span.
func rightWindows(levels []api.Level, span int) bool {
	// Level 0 has no window ahead of it, and every window is a multiple of 1.
	ahead := 1
	for i := 0; i < len(levels); i++ {
		window := levels[i].Window
		// 0 and what is below divide nothing, though they pass as multiples.
		if window < 1 {
			return false
		}
		if window%ahead != 0 || span%window != 0 {
			return false
		}
		ahead = window
	}
	return true
}

// rightSeries tells whether each level's rule is one, and each limit is within its bounds.
func rightSeries(levels []api.Level) bool {
	for i := 0; i < len(levels); i++ {
		level := levels[i]
		if !label.RightRule(level.Rule) {
			return false
		}
		if level.Limit < 1 || level.Limit > api.MaxLimit {
			return false
		}
	}
	return true
}
