package lsm

import (
	"slices"
	"strconv"
	"strings"

	"cormorant/api"
	"cormorant/codec"
	"cormorant/memtable"
	"cormorant/sstable"
	"cormorant/vdisk"
	"cormorant/wal"
)

const (
	kindManifest = 'M'
	manifestName = "cur"
	manifestTmp  = "cur.tmp"
	logTmp       = "tmp-"
	mostMemBytes = 262144
	leastBlock   = 64
	mostBlock    = 65536
	mostNext     = 1 << 31
)

func tableName(n int) string { return "t" + strconv.Itoa(n) }

func logName(n int) string { return "w" + strconv.Itoa(n) }

func validConfig(c api.StoreConfig) bool {
	return c.MemBytes >= 1 && c.MemBytes <= mostMemBytes &&
		c.BlockBytes >= leastBlock && c.BlockBytes <= mostBlock &&
		c.PerKey >= 1 && c.PerKey <= api.MaxPerKey &&
		c.Fanout >= 1 && c.Fanout <= api.MaxFanout && len(c.Heights) <= api.MaxHeights
}

// Open opens the one that lies there, or begins one.
func Open(d *vdisk.Disk, c api.StoreConfig) (*Store, api.StoreFound, api.Errno) {
	if d == nil || !validConfig(c) {
		return nil, api.StoreFound{}, api.ErrArg
	}
	c.Heights = slices.Clone(c.Heights)
	s := &Store{disk: d, config: c, open: true, mem: memtable.New(c.Heights)}
	found, e := s.load()
	if e != api.OK {
		return nil, api.StoreFound{}, e
	}
	return s, found, api.OK
}

func (s *Store) load() (api.StoreFound, api.Errno) {
	var found api.StoreFound
	var e api.Errno
	if s.state, e = readState(s.disk); e != api.OK {
		return found, e
	}
	for _, level := range s.state.levels {
		found.Tables += len(level)
	}
	if found.Orphans, e = s.deleteOrphans(); e != api.OK {
		return found, e
	}
	log, batches, cut, e := wal.Open(s.disk, logName(s.state.log))
	if e != api.OK {
		return found, e
	}
	found.Batches, found.Cut = len(batches), cut
	s.log, s.seq = log, s.state.flushed
	if len(batches) == 0 {
		if log.Start(s.state.flushed+1) != api.OK {
			return found, api.ErrStoreForm
		}
	} else if batches[0].Seq != s.state.flushed+1 {
		return found, api.ErrStoreForm
	}
	for _, b := range batches {
		s.remember(b)
	}
	return found, api.OK
}

// readState reads the manifest and its tables; without one it writes that of an empty store.
func readState(d *vdisk.Disk) (state, api.Errno) {
	b, e := d.Read(manifestName)
	if e == api.ErrDiskNone {
		st := state{next: 2, log: 1}
		return st, writeManifest(d, st)
	}
	if e != api.OK {
		return state{}, e
	}
	st, ok := parseManifest(b)
	if !ok {
		return state{}, api.ErrStoreForm
	}
	for n, level := range st.levels {
		for i := range level {
			if e := readTable(d, &level[i]); e != api.OK {
				return state{}, e
			}
			if n > 0 && i > 0 && codec.Compare(level[i-1].last, level[i].first) >= 0 {
				return state{}, api.ErrStoreForm
			}
		}
	}
	return st, api.OK
}

func readTable(d *vdisk.Disk, t *table) api.Errno {
	b, e := d.Read(tableName(t.file))
	if e == api.ErrDiskNone {
		return api.ErrStoreForm
	}
	if e != api.OK {
		return e
	}
	entries, e := sstable.Open(b)
	if e != api.OK {
		return api.ErrStoreForm
	}
	*t = newTable(t.file, entries)
	return api.OK
}

// parseManifest reads a manifest's bytes; of its tables only the files' numbers are known then.
func parseManifest(b []byte) (state, bool) {
	kind, body, n, e := codec.TakeFrame(b)
	if e != api.OK || kind != kindManifest || n != len(b) {
		return state{}, false
	}
	var numbers []uint64
	for len(body) > 0 {
		m, n, e := codec.TakeNumber(body)
		if e != api.OK {
			return state{}, false
		}
		numbers = append(numbers, m)
		body = body[n:]
	}
	if len(numbers) < 3+api.MaxLevels || numbers[0] > mostNext || numbers[1] < 1 || numbers[1] >= numbers[0] {
		return state{}, false
	}
	st := state{next: int(numbers[0]), log: int(numbers[1]), flushed: numbers[2]}
	return st, st.takeLevels(numbers[3:])
}

// takeLevels reads the files of the levels, which are all different.
func (st *state) takeLevels(numbers []uint64) bool {
	taken := map[int]int{st.log: 1}
	for n := range st.levels {
		if len(numbers) == 0 || numbers[0] > uint64(len(numbers)-1) {
			return false
		}
		count := int(numbers[0])
		for _, m := range numbers[1 : 1+count] {
			if m < 1 || m >= uint64(st.next) || taken[int(m)] > 0 {
				return false
			}
			taken[int(m)] = 1
			st.levels[n] = append(st.levels[n], table{file: int(m)})
		}
		numbers = numbers[1+count:]
	}
	return len(numbers) == 0
}

func writeManifest(d *vdisk.Disk, st state) api.Errno {
	body := codec.Number(uint64(st.next))
	body = append(body, codec.Number(uint64(st.log))...)
	body = append(body, codec.Number(st.flushed)...)
	for _, level := range st.levels {
		body = append(body, codec.Number(uint64(len(level)))...)
		for _, t := range level {
			body = append(body, codec.Number(uint64(t.file))...)
		}
	}
	frame, e := codec.Frame(kindManifest, body)
	if e != api.OK {
		return e
	}
	if _, there := d.Len(manifestTmp); there {
		if e := d.Delete(manifestTmp); e != api.OK {
			return e
		}
	}
	if e := d.Append(manifestTmp, frame); e != api.OK {
		return e
	}
	if e := d.Sync(manifestTmp); e != api.OK {
		return e
	}
	return d.Rename(manifestTmp, manifestName)
}

// deleteOrphans takes away the files that a crash has left.
func (s *Store) deleteOrphans() (int, api.Errno) {
	named := map[string]int{logName(s.state.log): 1}
	for _, level := range s.state.levels {
		for _, t := range level {
			named[tableName(t.file)] = 1
		}
	}
	count := 0
	for _, name := range s.disk.List() {
		if named[name] > 0 || !isOrphan(name) {
			continue
		}
		if e := s.disk.Delete(name); e != api.OK {
			return 0, e
		}
		count++
	}
	return count, api.OK
}

// isOrphan tells whether a file is one of a store's that it needs only if its manifest names it.
func isOrphan(name string) bool {
	if name == manifestTmp {
		return true
	}
	rest, tmp := strings.CutPrefix(name, logTmp)
	number, isLog := strings.CutPrefix(rest, "w")
	if !isLog && !tmp {
		number, isLog = strings.CutPrefix(rest, "t")
	}
	return isLog && isNumber(number)
}

func isNumber(s string) bool {
	if s == "" || len(s) > 1 && s[0] == '0' {
		return false
	}
	for _, c := range []byte(s) {
		if c < '0' || c > '9' {
			return false
		}
	}
	return true
}
