// Package block: how old the blocks of times are, and what becomes of them by that.
package block

import "garner/api"

// Age tells how old the block of the time t is; that of a block to come is below 0.
func Age(c api.Config, now, t int) int {
	if c.Span < 1 {
		return 0
	}
	return now/c.Span - t/c.Span
}

// Expired tells whether the block of the time t is kept no more.
func Expired(c api.Config, now, t int) bool {
	return Age(c, now, t) > c.Keep
}

// Level tells the number of the level that the block of the time t has.
func Level(c api.Config, now, t int) int {
	age := Age(c, now, t)
	level := 0
	for i := 0; i < len(c.Levels); i++ {
		if c.Levels[i].Age <= age {
			level = i
		}
	}
	return level
}
