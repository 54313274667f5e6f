// Package query: which queries can be answered, and the rows of their answers.
package query

import (
	"garner/api"
	"garner/block"
	"garner/label"
)

// open is the byte of a Match, and of a group, at a key that is not named.
const open = '.'

// named is the byte of a By at a key that it names.
const named = '1'

// latest is the greatest To that a query may have.
const latest = api.MaxNow + api.MaxSpan

// Check tells why a query cannot be answered at the time now, or OK.
func Check(c api.Config, now int, q api.Query) api.Errno {
	if !Right(q) {
		return api.ErrQuery
	}
	if block.Expired(c, now, q.From) {
		return api.ErrExpired
	}
	// The block of From is the oldest, so none has a later level. A level loses what those
	// ahead of it lose, and its window is a multiple of theirs: this one block tells for all.
	level := block.Level(c, now, q.From)
	if lost(c.Levels, level, q) {
		return api.ErrLost
	}
	if !fits(c.Levels, level, q) {
		return api.ErrWindow
	}
	return api.OK
}

// Right tells whether a query is one.
func Right(q api.Query) bool {
	return rightTimes(q) && rightMatch(q.Match) && rightBy(q.By)
}

// rightTimes tells whether the times of a query are within their bounds and make up whole steps.
func rightTimes(q api.Query) bool {
	if q.From < 0 || q.To <= q.From || q.To > latest {
		return false
	}
	if q.Step < 1 {
		return false
	}
	length := q.To - q.From
	if length%q.Step != 0 {
		return false
	}
	// Divided, since a multiple of Step could be too great for an int.
	return length/q.Step <= api.MaxSteps
}

// rightMatch tells whether a string is a Match.
func rightMatch(match string) bool {
	if len(match) != label.Keys {
		return false
	}
	for i := 0; i < len(match); i++ {
		if match[i] != open && !label.RightByte(match[i]) {
			return false
		}
	}
	return true
}

// rightBy tells whether a string is a By.
func rightBy(by string) bool {
	if len(by) != label.Keys {
		return false
	}
	for i := 0; i < len(by); i++ {
		if by[i] != '0' && by[i] != named {
			return false
		}
	}
	return true
}

// lost tells whether a level, or one ahead of it, does not keep a key that a query names.
func lost(levels []api.Level, last int, q api.Query) bool {
	for i := 0; i < len(levels) && i <= last; i++ {
		if loses(levels[i].Rule, q) {
			return true
		}
	}
	return false
}

// loses tells whether a rule does not keep a key that a query names.
func loses(rule string, q api.Query) bool {
	if len(rule) != label.Keys || len(q.Match) != label.Keys || len(q.By) != label.Keys {
		return false
	}
	for i := 0; i < label.Keys; i++ {
		asked := q.Match[i] != open || q.By[i] == named
		if asked && rule[i] != 'k' {
			return true
		}
	}
	return false
}

// fits tells whether the steps of a query begin and end where windows of a level do.
func fits(levels []api.Level, level int, q api.Query) bool {
	if level < 0 || level >= len(levels) {
		return false
	}
	window := levels[level].Window
	if window < 1 {
		return false
	}
	return q.From%window == 0 && q.Step%window == 0
}
