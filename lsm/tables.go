package lsm

import (
	"iter"
	"slices"

	"cormorant/api"
	"cormorant/codec"
	"cormorant/memtable"
	"cormorant/sstable"
	"cormorant/wal"
)

const entryBytes = 16 // that an entry counts beside its key and its value

// work is a flush or a compaction: the state that it leads to, and the files that it has made.
type work struct {
	store *Store
	state state
	made  []string
}

func (s *Store) begin() *work {
	w := &work{store: s, state: s.state}
	for n, level := range s.state.levels {
		w.state.levels[n] = slices.Clone(level)
	}
	return w
}

// table writes entries into a file.
func (w *work) table(l []api.Entry) (table, api.Errno) {
	c := w.store.config
	b, e := sstable.Build(l, c.BlockBytes, c.PerKey)
	if e != api.OK {
		return table{}, e
	}
	file := w.state.next
	name := tableName(file)
	if e := w.store.disk.Append(name, b); e != api.OK {
		return table{}, e
	}
	w.made = append(w.made, name)
	if e := w.store.disk.Sync(name); e != api.OK {
		return table{}, e
	}
	t, e := sstable.Open(b)
	if e != api.OK {
		return table{}, e
	}
	w.state.next++
	return newTable(file, t), api.OK
}

// fail takes back what was written, if the disk has no room.
func (w *work) fail(e api.Errno) api.Errno {
	if e != api.ErrDiskFull && e != api.ErrDiskMany {
		return e
	}
	for _, name := range w.made {
		if e := w.store.disk.Delete(name); e != api.OK {
			return e
		}
	}
	return e
}

// end writes the manifest; from then on the state holds.
func (w *work) end() api.Errno {
	if e := writeManifest(w.store.disk, w.state); e != api.OK {
		return w.fail(e)
	}
	w.store.state = w.state
	return api.OK
}

// flush makes the memtable a table of level 0.
func (s *Store) flush() api.Errno {
	if s.mem.Len() == 0 {
		return api.OK
	}
	w := s.begin()
	var l []api.Entry
	for group := range byKey(s.mem.Scan(nil)) {
		l = append(l, s.seen(group)...)
	}
	t, e := w.table(l)
	if e != api.OK {
		return w.fail(e)
	}
	old := logName(s.state.log)
	w.state.levels[0] = append(w.state.levels[0], t)
	w.state.log = w.state.next
	w.state.next++
	w.state.flushed = s.seq
	if e := w.end(); e != api.OK {
		return e
	}
	if _, there := s.disk.Len(old); there {
		if e := s.disk.Delete(old); e != api.OK {
			return e
		}
	}
	s.mem = memtable.New(s.config.Heights)
	log, _, _, e := wal.Open(s.disk, logName(s.state.log))
	if e != api.OK {
		return e
	}
	s.log = log
	return s.log.Start(s.seq + 1)
}

// seen are those of a key's entries that somebody can see, now or by a snapshot.
func (s *Store) seen(group []api.Entry) []api.Entry {
	l := group[:1:1]
	for i, x := range group[1:] {
		newer := group[i].Seq
		if slices.ContainsFunc(s.snaps, func(n uint64) bool { return n >= x.Seq && n < newer }) {
			l = append(l, x)
		}
	}
	return l
}

// tooFull is the lowest level with too many tables, or -1.
func (s *Store) tooFull() int {
	most := s.config.Fanout
	for n, level := range s.state.levels[:api.MaxLevels-1] {
		if len(level) > most {
			return n
		}
		if n > 0 {
			most *= s.config.Fanout
		}
	}
	return -1
}

// compact lays tables of a level into the next one.
func (s *Store) compact(n int) api.Errno {
	upper, lower := s.choose(n)
	w := s.begin()
	var fresh []table
	for l := range s.portions(s.remaining(n, slices.Concat(upper, lower))) {
		t, e := w.table(l)
		if e != api.OK {
			return w.fail(e)
		}
		fresh = append(fresh, t)
	}
	w.state.levels[n] = without(w.state.levels[n], upper)
	next := append(without(w.state.levels[n+1], lower), fresh...)
	slices.SortFunc(next, func(a, b table) int { return codec.Compare(a.first, b.first) })
	w.state.levels[n+1] = next
	if e := w.end(); e != api.OK {
		return e
	}
	for _, t := range slices.Concat(upper, lower) {
		if e := s.disk.Delete(tableName(t.file)); e != api.OK {
			return e
		}
	}
	return api.OK
}

// choose is the tables that a compaction of a level takes from it and from the next one.
func (s *Store) choose(n int) ([]table, []table) {
	upper := s.state.levels[n]
	if n > 0 {
		upper = upper[:1]
	}
	first, last := upper[0].first, upper[0].last
	for _, t := range upper {
		if codec.Compare(t.first, first) < 0 {
			first = t.first
		}
		if codec.Compare(t.last, last) > 0 {
			last = t.last
		}
	}
	var lower []table
	for _, t := range s.state.levels[n+1] {
		if codec.Compare(t.first, last) <= 0 && codec.Compare(t.last, first) >= 0 {
			lower = append(lower, t)
		}
	}
	return upper, lower
}

func without(l, gone []table) []table {
	var rest []table
	for _, t := range l {
		if !slices.ContainsFunc(gone, func(g table) bool { return g.file == t.file }) {
			rest = append(rest, t)
		}
	}
	return rest
}

// remaining enumerates the entries of tables that a compaction of a level keeps.
func (s *Store) remaining(n int, l []table) iter.Seq[api.Entry] {
	var all []iter.Seq[api.Entry]
	for _, t := range l {
		all = append(all, t.entries.Scan(nil))
	}
	return func(yield func(api.Entry) bool) {
		for group := range byKey(merge(all)) {
			group = s.seen(group)
			if len(group) == 1 && s.needless(n, group[0]) {
				continue
			}
			for _, x := range group {
				if !yield(x) {
					return
				}
			}
		}
	}
}

// needless tells whether a key's only entry deletes what nobody can see.
func (s *Store) needless(n int, x api.Entry) bool {
	if !x.Del || slices.ContainsFunc(s.snaps, func(m uint64) bool { return m < x.Seq }) {
		return false
	}
	for _, level := range s.state.levels[min(n+2, api.MaxLevels):] {
		for _, t := range level {
			if codec.Compare(t.first, x.Key) <= 0 && codec.Compare(t.last, x.Key) >= 0 {
				return false
			}
		}
	}
	return true
}

// portions divides entries into those of one table each; a key's entries stay together.
func (s *Store) portions(l iter.Seq[api.Entry]) iter.Seq[[]api.Entry] {
	return func(yield func([]api.Entry) bool) {
		var portion []api.Entry
		size := 0
		for x := range l {
			more := len(x.Key) + len(x.Value) + entryBytes
			if len(portion) > 0 && size+more > 2*s.config.MemBytes && codec.Compare(portion[len(portion)-1].Key, x.Key) != 0 {
				if !yield(portion) {
					return
				}
				portion, size = nil, 0
			}
			portion = append(portion, x)
			size += more
		}
		if len(portion) > 0 {
			yield(portion)
		}
	}
}
