// Package garner: numbers with times and labels, kept the coarser the older they are: see DOC.md.
package garner

import (
	"garner/api"
	"garner/config"
	"garner/label"
	"garner/record"
	"garner/sample"
)

// Right tells whether a configuration is right (P3).
func Right(c api.Config) api.Errno {
	if !config.Right(c) {
		return api.ErrConfig
	}
	return api.OK
}

// Project tells what a rule makes of labels (P3).
func Project(rule string, labels api.Labels) (api.Labels, api.Errno) {
	return label.Project(rule, labels)
}

// Record writes a batch as bytes (P4).
func Record(batch []api.Sample) (string, api.Errno) {
	err := sample.CheckBatch(batch)
	if err != api.OK {
		return "", err
	}
	return record.OfBatch(batch), api.OK
}

// Unrecord reads a batch from bytes (P5).
func Unrecord(s string) ([]api.Sample, int, api.Errno) {
	return record.ReadBatch(s)
}
