package mvcc

import (
	"bytes"
	"maps"
	"slices"

	"cormorant/api"
	"cormorant/codec"
	"cormorant/hlc"
)

// The space as keys and values: the floor, if it is not the first moment; each version; each intent.
const (
	kindFloor   = 'f'
	kindIntent  = 'i' // the key
	kindVersion = 'v' // the key, the moment
)

// was is what a key of these had: perhaps nothing.
type was struct {
	there bool
	value []byte
}

// keep notes a change of the keys and values; nil takes a key away.
func (s *Space) keep(key string, value []byte) {
	if _, ok := s.old[key]; !ok {
		before, there := s.kept[key]
		s.old[key] = was{there: there, value: before}
	}
	if value == nil {
		delete(s.kept, key)
	} else {
		s.kept[key] = value
	}
}

func floorKey() string { return string(rune(kindFloor)) }

func intentKey(key string) string {
	return string(append([]byte{kindIntent}, codec.KeyText([]byte(key))...))
}

func versionKey(key string, at api.Stamp) string {
	b := append([]byte{kindVersion}, codec.KeyText([]byte(key))...)
	return string(append(b, stampBytes(at)...))
}

// stampBytes are those of a moment that may be.
func stampBytes(at api.Stamp) []byte {
	b, _ := hlc.Bytes(at)
	return b
}

// body is a version's value, or that it deletes.
func (v version) body() []byte {
	if v.del {
		return []byte{1}
	}
	return append([]byte{0}, v.value...)
}

func takeBody(b []byte) (version, bool) {
	if len(b) < 1 || len(b) > 1+api.MaxRow || b[0] > 1 || b[0] == 1 && len(b) > 1 {
		return version{}, false
	}
	return version{del: b[0] == 1, value: slices.Clone(b[1:])}, true
}

func (s *Space) setFloor(at api.Stamp) {
	s.floor = at
	s.keep(floorKey(), stampBytes(at))
}

// item is what a key has; from now on it has something.
func (s *Space) item(key string) *item {
	x := s.items[key]
	if x == nil {
		x = &item{}
		s.items[key] = x
		at, _ := slices.BinarySearch(s.keys, key)
		s.keys = slices.Insert(s.keys, at, key)
	}
	return x
}

// tidy forgets a key that has nothing any more.
func (s *Space) tidy(key string) {
	if x := s.items[key]; x != nil && x.intent == nil && len(x.versions) == 0 {
		delete(s.items, key)
		if at, ok := slices.BinarySearch(s.keys, key); ok {
			s.keys = slices.Delete(s.keys, at, at+1)
		}
	}
}

func (s *Space) setIntent(key string, i *intent) {
	s.item(key).intent = i
	if i == nil {
		s.keep(intentKey(key), nil)
		s.tidy(key)
		return
	}
	b := append(codec.Number(uint64(i.txn)), stampBytes(i.at)...)
	s.keep(intentKey(key), append(b, i.body()...))
}

func (s *Space) addVersion(key string, v version) {
	x := s.item(key)
	x.versions = append(x.versions, v)
	s.keep(versionKey(key, v.at), v.body())
}

// dropVersions takes a key's first versions away.
func (s *Space) dropVersions(key string, n int) {
	x := s.items[key]
	if x == nil || n == 0 {
		return
	}
	for _, v := range x.versions[:n] {
		s.keep(versionKey(key, v.at), nil)
	}
	x.versions = slices.Clone(x.versions[n:])
	s.tidy(key)
}

// All is all of it, as keys and values.
func (s *Space) All() []api.KV {
	var l []api.KV
	for _, key := range slices.Sorted(maps.Keys(s.kept)) {
		l = append(l, api.KV{Key: []byte(key), Value: slices.Clone(s.kept[key])})
	}
	return l
}

// Take tells what has changed since it was last asked, as changes of keys and values.
func (s *Space) Take() []api.Op {
	var l []api.Op
	for _, key := range slices.Sorted(maps.Keys(s.old)) {
		before := s.old[key]
		now, there := s.kept[key]
		switch {
		case !there && before.there:
			l = append(l, api.Op{Del: true, Key: []byte(key)})
		case there && (!before.there || !bytes.Equal(before.value, now)):
			l = append(l, api.Op{Key: []byte(key), Value: slices.Clone(now)})
		}
	}
	s.old = map[string]was{}
	return l
}

// Load is one of what was taken of another one.
func Load(l []api.KV) (*Space, api.Errno) {
	s := New()
	for i, kv := range l {
		if i > 0 && codec.Compare(l[i-1].Key, kv.Key) >= 0 || !s.load(kv) {
			return nil, api.ErrMvccForm
		}
	}
	s.old = map[string]was{}
	return s, api.OK
}

// load takes one key with its value.
func (s *Space) load(kv api.KV) bool {
	if len(kv.Key) == 0 {
		return false
	}
	if kv.Key[0] == kindFloor {
		at, e := hlc.Read(kv.Value)
		s.setFloor(at)
		return e == api.OK && len(kv.Key) == 1
	}
	key, n, e := codec.TakeKeyText(kv.Key[1:])
	if e != api.OK || !isKey(key) {
		return false
	}
	rest := kv.Key[1+n:]
	switch kv.Key[0] {
	case kindIntent:
		i, ok := takeIntent(kv.Value)
		if !ok || len(rest) > 0 {
			return false
		}
		s.setIntent(string(key), i)
	case kindVersion:
		v, ok := takeBody(kv.Value)
		if !ok {
			return false
		}
		if v.at, e = hlc.Read(rest); e != api.OK {
			return false
		}
		s.addVersion(string(key), v)
	default:
		return false
	}
	return true
}

func takeIntent(b []byte) (*intent, bool) {
	txn, n, e := codec.TakeNumber(b)
	if e != api.OK || txn < 1 || txn > api.MaxWall || len(b) < n+stampSize {
		return nil, false
	}
	at, e := hlc.Read(b[n : n+stampSize])
	if e != api.OK {
		return nil, false
	}
	v, ok := takeBody(b[n+stampSize:])
	v.at = at
	return &intent{txn: int(txn), version: v}, ok
}

const stampSize = 9
