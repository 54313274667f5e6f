// Package sample: which samples and batches of samples are right.
package sample

import (
	"garner/api"
	"garner/label"
)

// Right tells whether a sample is right.
func Right(x api.Sample) bool {
	if x.At < 0 || x.At > api.MaxNow {
		return false
	}
	return label.Right(x.Labels)
}

// CheckBatch tells what is wrong with a batch of samples, or OK.
func CheckBatch(batch []api.Sample) api.Errno {
	if len(batch) < 1 || len(batch) > api.MaxBatch {
		return api.ErrBatch
	}
	for i := 0; i < len(batch); i++ {
		if !Right(batch[i]) {
			return api.ErrSample
		}
	}
	return api.OK
}
