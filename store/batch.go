package store

import (
	"jetway/api"
	"jetway/word"
)

const (
	lastNumber = 1<<63 - 1 // the greatest number that a batch may have

	dropMark = 0
	layMark  = 1
)

// batch: writes that are all done, or none of them. Their versions were asked for ahead of it, and are no part of it.
type batch struct {
	number uint64
	writes []Write
}

// bytes answers new memory: nothing that was handed in is kept by way of it.
func (b batch) bytes() []byte {
	out := addVar(nil, b.number)
	out = addVar(out, uint64(len(b.writes)))
	for _, w := range b.writes {
		out = addVar(out, uint64(len(w.Key)))
		out = append(out, w.Key...)
		if w.Drop {
			out = append(out, dropMark)
			continue
		}
		out = append(out, layMark)
		out = addVar(out, uint64(len(w.Value)))
		out = append(out, w.Value...)
	}
	return out
}

// addVar lays the number alone by Var, which would copy all that stands ahead of it else.
func addVar(b []byte, n uint64) []byte { return append(b, word.Var(nil, n)...) }

// readBatch answers the batch of which a record is just the bytes. Its values are pieces of the record.
func readBatch(record []byte) (batch, bool) {
	r := reader{rest: record}
	b := batch{number: r.number(0, lastNumber)}
	for range r.number(0, api.MaxWrites) {
		b.writes = append(b.writes, r.write())
	}
	if r.bad || len(r.rest) > 0 {
		return batch{}, false
	}
	return b, true
}

// reader goes through a record. It is bad from where something else stands than is asked for; what it reads from then on counts for nothing.
type reader struct {
	rest []byte
	bad  bool
}

func (r *reader) write() Write {
	w := Write{Key: string(r.cut(r.number(1, api.MaxKey)))}
	mark := r.cut(1)
	switch {
	case r.bad:
	case mark[0] == dropMark:
		w.Drop = true
	case mark[0] == layMark:
		w.Value = r.cut(r.number(0, api.MaxValue))
	default:
		r.bad = true
	}
	return w
}

func (r *reader) number(least, most uint64) uint64 {
	n, size, e := word.ReadVar(r.rest)
	if e != api.OK || n < least || n > most {
		r.bad = true
		return 0
	}
	r.rest = r.rest[size:]
	return n
}

// cut answers a piece without spare room, as the next piece would stand in that.
func (r *reader) cut(n uint64) []byte {
	if n > uint64(len(r.rest)) {
		r.bad = true
		return nil
	}
	piece := r.rest[:n:n]
	r.rest = r.rest[n:]
	return piece
}
