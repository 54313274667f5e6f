package garner

import (
	"garner/api"
	"garner/block"
	"garner/cell"
	"garner/config"
	"garner/query"
	"garner/record"
	"garner/sample"
	"garner/series"
)

// Store keeps samples.
type Store struct {
	config api.Config
	now    int
	// taken is how many samples were accepted in all; points are those that are not expired.
	taken  int
	points []series.Point
	book   series.Book
	// log is bytes, not a string, so that a record is put behind it without a copy of all of it.
	log []byte
}

// Open makes a store out of a log (P6).
func Open(c api.Config, log string) (*Store, int, api.Errno) {
	if !config.Right(c) {
		return nil, 0, api.ErrConfig
	}
	// The list of levels is the caller's, who may write into it later.
	c.Levels = append([]api.Level{}, c.Levels...)
	x := &Store{config: c}
	done := x.redo(log)
	return x, done, api.OK
}

// redo does the records of a log, as far as it can, and tells how many bytes it did.
func (x *Store) redo(log string) int {
	done := 0
	for done < len(log) {
		size := x.redoFirst(log[done:])
		if size < 1 {
			return done
		}
		done += size
	}
	return done
}

// redoFirst does the record with which s begins and tells its size; 0 if none was done.
func (x *Store) redoFirst(s string) int {
	size := x.redoWrite(s)
	if size > 0 {
		return size
	}
	return x.redoTick(s)
}

// redoWrite does the record of a Write with which s begins and tells its size; 0 if none was done.
func (x *Store) redoWrite(s string) int {
	batch, size, err := record.ReadBatch(s)
	if err != api.OK {
		return 0
	}
	err = x.Write(batch)
	if err != api.OK {
		return 0
	}
	return size
}

// redoTick does the record of a Tick with which s begins and tells its size; 0 if none was done.
func (x *Store) redoTick(s string) int {
	n, size, err := record.ReadTick(s)
	if err != api.OK {
		return 0
	}
	err = x.Tick(n)
	if err != api.OK {
		return 0
	}
	return size
}

// Tick lets the time go on (P7).
func (x *Store) Tick(n int) api.Errno {
	if n < 1 || n > api.MaxTick || x.now > api.MaxNow-n {
		return api.ErrArg
	}
	x.now += n
	x.forget()
	s := record.OfTick(n)
	x.log = append(x.log, s...)
	return api.OK
}

// forget lets the points go that are expired: NOW never goes back, so nothing asks for them again.
func (x *Store) forget() {
	left := 0
	for i := 0; i < len(x.points); i++ {
		p := x.points[i]
		if !block.Expired(x.config, x.now, p.At) {
			x.points[left] = p
			left++
		}
	}
	x.points = x.points[:left]
}

// Now tells the time (P7).
func (x *Store) Now() int {
	return x.now
}

// Write takes a batch of samples (P8).
func (x *Store) Write(batch []api.Sample) api.Errno {
	err := x.checkWrite(batch)
	if err != api.OK {
		return err
	}
	for i := 0; i < len(batch); i++ {
		p := x.book.Enter(x.config.Levels, batch[i])
		x.points = append(x.points, p)
	}
	x.taken += len(batch)
	s := record.OfBatch(batch)
	x.log = append(x.log, s...)
	return api.OK
}

// checkWrite tells why a batch cannot be accepted, or OK.
func (x *Store) checkWrite(batch []api.Sample) api.Errno {
	err := sample.CheckBatch(batch)
	if err != api.OK {
		return err
	}
	for i := 0; i < len(batch); i++ {
		t := batch[i].At
		if t > x.now || block.Expired(x.config, x.now, t) {
			return api.ErrTime
		}
	}
	if x.taken+len(batch) > api.MaxSamples {
		return api.ErrFull
	}
	return api.OK
}

// Query adds up what is kept (P9).
func (x *Store) Query(q api.Query) ([]api.Row, api.Errno) {
	err := query.Check(x.config, x.now, q)
	if err != api.OK {
		return nil, err
	}
	return query.Rows(x.config, x.now, q, x.points), api.OK
}

// Cells tells how many cells there are (P10).
func (x *Store) Cells() int {
	return cell.Count(x.config, x.now, x.points)
}

// Log tells the records of all that was accepted (P11).
func (x *Store) Log() string {
	return string(x.log)
}
