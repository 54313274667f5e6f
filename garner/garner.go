// Package garner: numbers with times and labels, kept the coarser the older they are: see DOC.md.
package garner

import (
	"garner/api"
	"garner/config"
	"garner/label"
	"garner/record"
	"garner/sample"
)

// Store keeps samples.
type Store struct{}

// Right tells whether a configuration is right (P3).
func Right(c api.Config) api.Errno {
	if !config.Right(c) {
		return api.ErrConfig
	}
	return api.OK
}

// Project tells what a rule makes of labels (P3).
func Project(rule string, labels api.Labels) (api.Labels, api.Errno) {
	return label.Project(rule, labels)
}

// Record writes a batch as bytes (P4).
func Record(batch []api.Sample) (string, api.Errno) {
	err := sample.CheckBatch(batch)
	if err != api.OK {
		return "", err
	}
	return record.OfBatch(batch), api.OK
}

// Unrecord reads a batch from bytes (P5).
func Unrecord(s string) ([]api.Sample, int, api.Errno) {
	return record.ReadBatch(s)
}

// Open makes a store out of a log (P6).
func Open(c api.Config, log string) (*Store, int, api.Errno) { return nil, 0, api.OK }

// Tick lets the time go on (P7).
func (x *Store) Tick(n int) api.Errno { return api.OK }

// Now tells the time (P7).
func (x *Store) Now() int { return 0 }

// Write takes a batch of samples (P8).
func (x *Store) Write(batch []api.Sample) api.Errno { return api.OK }

// Query adds up what is kept (P9).
func (x *Store) Query(q api.Query) ([]api.Row, api.Errno) { return nil, api.OK }

// Cells tells how many cells there are (P10).
func (x *Store) Cells() int { return 0 }

// Log tells the records of all that was accepted (P11).
func (x *Store) Log() string { return "" }
