package sstable

import (
	"bytes"

	"cormorant/api"
	"cormorant/bloom"
	"cormorant/codec"
)

const (
	kindBlock  = 'D'
	kindFilter = 'F'
	kindIndex  = 'I'
	footBytes  = 40
	footMark   = "CORM"
	leastBlock = 64
	mostBlock  = 65536
)

// builder is a table that is being written.
type builder struct {
	out    []byte
	index  []byte // but the number of blocks
	blocks int
	body   []byte // of the current block
	count  int    // its entries
	last   []byte // its last key
}

// Build is the bytes of a table.
func Build(l []api.Entry, blockBytes, perKey int) ([]byte, api.Errno) {
	if blockBytes < leastBlock || blockBytes > mostBlock || perKey < 1 || perKey > api.MaxPerKey {
		return nil, api.ErrArg
	}
	if len(l) < 1 || len(l) > api.MaxTabled {
		return nil, api.ErrTableMany
	}
	if e := checkEntries(l); e != api.OK {
		return nil, e
	}
	var b builder
	for _, x := range l {
		b.add(x, blockBytes)
		if len(b.out) > api.MaxTable {
			return nil, api.ErrTableLong
		}
	}
	b.endBlock()
	return b.finish(l, blockBytes, perKey)
}

func checkEntries(l []api.Entry) api.Errno {
	for i, x := range l {
		if !validEntry(x) {
			return api.ErrTableEntry
		}
		if i > 0 && !before(l[i-1], x) {
			return api.ErrTableOrder
		}
	}
	return api.OK
}

func validEntry(x api.Entry) bool {
	return len(x.Key) >= 1 && len(x.Key) <= api.MaxKey &&
		x.Seq >= 1 && x.Seq <= api.MaxSeq &&
		len(x.Value) <= api.MaxValue && (!x.Del || len(x.Value) == 0)
}

func before(a, b api.Entry) bool {
	c := codec.Compare(a.Key, b.Key)
	return c < 0 || c == 0 && a.Seq > b.Seq
}

func (b *builder) add(x api.Entry, blockBytes int) {
	enc := entryBytes(x, b.last)
	if b.count > 0 && len(b.body)+len(enc) > blockBytes {
		b.endBlock()
		enc = entryBytes(x, nil)
	}
	b.body = append(b.body, enc...)
	b.count++
	b.last = x.Key
}

func entryBytes(x api.Entry, last []byte) []byte {
	shared := 0
	for shared < len(last) && shared < len(x.Key) && last[shared] == x.Key[shared] {
		shared++
	}
	b := codec.Number(uint64(shared))
	b = append(b, codec.Number(uint64(len(x.Key)-shared))...)
	b = append(b, codec.Number(x.Seq)...)
	if x.Del {
		b = append(b, 1)
	} else {
		b = append(b, 0)
	}
	b = append(b, codec.Number(uint64(len(x.Value)))...)
	b = append(b, x.Key[shared:]...)
	return append(b, x.Value...)
}

func (b *builder) endBlock() {
	from := len(b.out)
	b.frame(kindBlock, b.body)
	for _, n := range []int{from, len(b.out) - from, b.count} {
		b.index = append(b.index, codec.Number(uint64(n))...)
	}
	text, _ := codec.Text(b.last)
	b.index = append(b.index, text...)
	b.blocks++
	b.body, b.count, b.last = nil, 0, nil
}

func (b *builder) frame(kind byte, body []byte) {
	f, _ := codec.Frame(kind, body)
	b.out = append(b.out, f...)
}

// finish writes what stands behind the blocks.
func (b *builder) finish(l []api.Entry, blockBytes, perKey int) ([]byte, api.Errno) {
	filter, e := bloom.Make(distinctKeys(l), perKey)
	if e != api.OK {
		return nil, e
	}
	filterAt := len(b.out)
	b.frame(kindFilter, filter)
	index := append(codec.Number(uint64(b.blocks)), b.index...)
	if len(index) > api.MaxFrame {
		return nil, api.ErrTableLong
	}
	indexAt := len(b.out)
	b.frame(kindIndex, index)
	foot := big(nil, uint64(filterAt), 8)
	foot = big(foot, uint64(indexAt), 8)
	foot = big(foot, uint64(len(l)), 8)
	foot = big(foot, uint64(blockBytes), 4)
	foot = big(foot, uint64(perKey), 4)
	foot = append(foot, footMark...)
	s := codec.Sum(foot)
	foot = append(foot, byte(s), byte(s>>8), byte(s>>16), byte(s>>24))
	b.out = append(b.out, foot...)
	if len(b.out) > api.MaxTable {
		return nil, api.ErrTableLong
	}
	return b.out, api.OK
}

func distinctKeys(l []api.Entry) [][]byte {
	var keys [][]byte
	for i, x := range l {
		if i == 0 || !bytes.Equal(x.Key, l[i-1].Key) {
			keys = append(keys, x.Key)
		}
	}
	return keys
}

// big puts a number's lowest bytes behind others, the highest of them first.
func big(b []byte, n uint64, size int) []byte {
	for i := size - 1; i >= 0; i-- {
		b = append(b, byte(n>>(8*i)))
	}
	return b
}
