package wal

import (
	"strings"

	"afflux/api"
	"afflux/disk"
	"afflux/seal"
)

// Open opens a log, and tells its records.
func Open(d *disk.Disk, name string, first int) (*Log, []api.Rec, api.Errno) {
	switch {
	case d == nil || !named(name) || first < 0 || first > most:
		return nil, nil, api.ErrArg
	case !d.On():
		return nil, nil, api.ErrOff
	}
	l := &Log{place: from(first), disk: d, name: name}
	recs, e := l.read()
	if e != api.OK {
		return nil, nil, e
	}
	l.safe = l.next
	return l, recs, api.OK
}

// named tells whether a log may have that name.
func named(name string) bool {
	for _, c := range []byte(name) {
		if c < 'a' || c > 'z' {
			return false
		}
	}
	return name != "" && len(name) <= maxName
}

// read is the records of all segments. Behind it the place is that behind the
// last one.
func (l *Log) read() ([]api.Rec, api.Errno) {
	var out []api.Rec
	segments := l.segments()
	for i, number := range segments {
		// Behind a segment without records the next one's number would have to
		// be that segment's own, so that there can be none.
		if i > 0 && number != l.next {
			return nil, api.ErrCorrupt
		}
		l.place = from(number)
		recs, e := l.readOne(i == len(segments)-1)
		if e != api.OK {
			return nil, e
		}
		out = append(out, recs...)
	}
	return out, api.OK
}

// readOne is the records of the place's segment. Behind it the place is that
// behind them.
func (l *Log) readOne(last bool) ([]api.Rec, api.Errno) {
	bytes, e := l.disk.Read(l.file(l.segment))
	if e != api.OK {
		return nil, e
	}
	recs, size := records(bytes, l.segment)
	l.next += len(recs)
	l.size = size
	behind := size < len(bytes)
	switch {
	case last:
		return recs, l.settle(behind)
	case behind:
		return nil, api.ErrCorrupt
	}
	return recs, api.OK
}

// records is those of a segment's bytes, the first one's number being as told,
// and how many bytes they have.
func records(bytes string, number int) ([]api.Rec, int) {
	var out []api.Rec
	size := 0
	for {
		body, more, what := seal.Open(bytes[size:])
		data, numbered := strings.CutPrefix(body, eight(number))
		if what != seal.Whole || !numbered {
			return out, size
		}
		out = append(out, api.Rec{Seq: number, Data: data})
		size += more
		number++
	}
}

// settle cuts off what stands behind the last segment's records. It syncs these
// in any case: they are told, so they are safe, though nobody may have committed
// them ahead of this.
func (l *Log) settle(behind bool) api.Errno {
	file := l.file(l.segment)
	if behind {
		if e := l.disk.Cut(file, l.size); e != api.OK {
			return e
		}
	}
	return l.disk.Sync(file)
}
