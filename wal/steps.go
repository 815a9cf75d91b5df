package wal

import (
	"joist/api"
	"joist/pmem"
)

// steps are what is to be done to a device: they are laid out first, so that one place alone ends at the first error.
type steps struct {
	*pmem.Device
	row []func() api.Errno
}

// bring stores bytes from a line on, and flushes them.
func (s *steps) bring(line int, b []byte) {
	at := line * api.LineSize
	s.row = append(s.row,
		func() api.Errno { return s.Store(at, b) },
		func() api.Errno { return s.Flush(at, len(b)) },
	)
}

// keep brings bytes, and lets them last ahead of all that follows.
func (s *steps) keep(line int, b []byte) {
	s.bring(line, b)
	s.row = append(s.row, s.Fence)
}

// finish brings changes to their places; the mark goes only behind their fence, as till then who recovers needs the records.
func (s *steps) finish(g api.Log, l []api.Change) {
	for _, c := range l {
		s.bring(c.Line, c.B)
	}
	s.row = append(s.row, s.Fence)
	s.keep(g.Mark, markOf(nil))
}

// run does the steps, up to the first one that tells an error.
func (s *steps) run() api.Errno {
	for _, step := range s.row {
		if e := step(); e != api.OK {
			return e
		}
	}
	return api.OK
}
