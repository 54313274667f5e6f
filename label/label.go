// Package label: labels, and what rules make of them.
package label

import "garner/api"

// Keys is how many keys labels and rules have.
const Keys = 3

// none is the byte of a key that has no label.
const none = '-'

// isLetter tells whether a byte is a letter a to z.
func isLetter(b byte) bool {
	return b >= 'a' && b <= 'z'
}

// RightByte tells whether a byte may stand at a key of labels.
func RightByte(b byte) bool {
	return b == none || isLetter(b)
}

// Right tells whether three bytes are labels.
func Right(labels api.Labels) bool {
	for i := 0; i < Keys; i++ {
		if !RightByte(labels[i]) {
			return false
		}
	}
	return true
}

// RightRule tells whether a string is a rule.
func RightRule(rule string) bool {
	if len(rule) != Keys {
		return false
	}
	for i := 0; i < Keys; i++ {
		b := rule[i]
		if b != 'k' && b != 'g' && b != 'd' {
			return false
		}
	}
	return true
}

// group tells the label that stands for the half of the letters in which b is.
func group(b byte) byte {
	if b == none {
		return none
	}
	if b <= 'm' {
		return 'a'
	}
	return 'n'
}

// projectByte tells what one byte of a rule makes of the label at its key.
func projectByte(rule, b byte) byte {
	switch rule {
	case 'g':
		return group(b)
	case 'd':
		return none
	}
	return b
}

// Project tells what a rule makes of labels.
func Project(rule string, labels api.Labels) (api.Labels, api.Errno) {
	if !RightRule(rule) {
		return api.Labels{}, api.ErrRule
	}
	if !Right(labels) {
		return api.Labels{}, api.ErrLabels
	}
	made := api.Labels{}
	for i := 0; i < Keys; i++ {
		made[i] = projectByte(rule[i], labels[i])
	}
	return made, api.OK
}
