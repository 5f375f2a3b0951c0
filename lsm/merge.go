package lsm

import (
	"bytes"
	"container/heap"
	"iter"
	"slices"

	"cormorant/api"
	"cormorant/codec"
)

// source is what remains of an enumeration of entries; there is always a first one.
type source []api.Entry

// sources is a heap: the one whose first entry comes first stands in front.
type sources []source

func (h sources) Len() int { return len(h) }

func (h sources) Less(i, j int) bool { return before(h[i][0], h[j][0]) }

func (h sources) Swap(i, j int) { h[i], h[j] = h[j], h[i] }

func (h *sources) Push(x any) {
	if s, ok := x.(source); ok {
		*h = append(*h, s)
	}
}

func (h *sources) Pop() any {
	last := len(*h) - 1
	s := (*h)[last]
	*h = (*h)[:last]
	return s
}

func before(a, b api.Entry) bool {
	c := codec.Compare(a.Key, b.Key)
	return c < 0 || c == 0 && a.Seq > b.Seq
}

// merge enumerates the entries of several enumerations, in their order.
func merge(l []iter.Seq[api.Entry]) iter.Seq[api.Entry] {
	return func(yield func(api.Entry) bool) {
		h := &sources{}
		for _, one := range l {
			if all := slices.Collect(one); len(all) > 0 {
				heap.Push(h, source(all))
			}
		}
		for h.Len() > 0 {
			first := (*h)[0]
			if !yield(first[0]) {
				return
			}
			if len(first) == 1 {
				heap.Pop(h)
				continue
			}
			(*h)[0] = first[1:]
			heap.Fix(h, 0)
		}
	}
}

// below ends an enumeration at a key, if that is not empty.
func below(l iter.Seq[api.Entry], to []byte) iter.Seq[api.Entry] {
	return func(yield func(api.Entry) bool) {
		for x := range l {
			if len(to) > 0 && codec.Compare(x.Key, to) >= 0 || !yield(x) {
				return
			}
		}
	}
}

// newestOnly enumerates of each key the newest entry that is not newer than a moment.
func newestOnly(l iter.Seq[api.Entry], seq uint64) iter.Seq[api.Entry] {
	return func(yield func(api.Entry) bool) {
		var last []byte
		for x := range l {
			if x.Seq > seq || last != nil && bytes.Equal(x.Key, last) {
				continue
			}
			last = x.Key
			if !yield(x) {
				return
			}
		}
	}
}

// byKey enumerates the entries of each key together.
func byKey(l iter.Seq[api.Entry]) iter.Seq[[]api.Entry] {
	return func(yield func([]api.Entry) bool) {
		var group []api.Entry
		for x := range l {
			if len(group) > 0 && !bytes.Equal(group[0].Key, x.Key) {
				if !yield(group) {
					return
				}
				group = nil
			}
			group = append(group, x)
		}
		if len(group) > 0 {
			yield(group)
		}
	}
}
