package rangemeta

import (
	"bytes"
	"slices"

	"cormorant/api"
	"cormorant/codec"
)

// Cache is ranges that were learned: some may be old.
type Cache struct{ known []api.Range }

// Fresh is one that knows none.
func Fresh() *Cache { return &Cache{} }

// Learn takes a range, if what is known is not newer; Forget forgets one.
func (c *Cache) Learn(r api.Range) bool {
	if !isRange(r) {
		return false
	}
	meets := func(k api.Range) bool { return k.Id == r.Id || overlap(k.Span, r.Span) }
	for _, k := range c.known {
		if meets(k) && (k.Gen > r.Gen || k.Gen == r.Gen && !equal(k, r)) {
			return false
		}
	}
	c.known = slices.DeleteFunc(c.known, meets)
	at := place(c.known, func(k api.Range) bool { return codec.Compare(k.Span.From, r.Span.From) > 0 })
	c.known = slices.Insert(c.known, at, clone(r))
	return true
}

func equal(a, b api.Range) bool {
	return a.Id == b.Id && a.Gen == b.Gen && bytes.Equal(a.Span.From, b.Span.From) && bytes.Equal(a.Span.To, b.Span.To)
}

func (c *Cache) Forget(id int) bool {
	before := len(c.known)
	c.known = slices.DeleteFunc(c.known, func(k api.Range) bool { return k.Id == id })
	return len(c.known) < before
}

// Known are all that it knows, by their keys; Find is that of a key; Cut are the parts of a span that it knows, and what it does not.
func (c *Cache) Known() []api.Range { return cloneAll(c.known) }

func (c *Cache) Find(key []byte) (api.Range, bool) {
	i, ok := find(c.known, key)
	if !ok {
		return api.Range{}, false
	}
	return clone(c.known[i]), true
}

func (c *Cache) Cut(p api.Span) ([]api.Part, []api.Span) {
	parts := cut(c.known, p)
	if isEmpty(p) {
		return nil, nil
	}
	var rest []api.Span
	from := p.From
	for _, part := range parts {
		if codec.Compare(from, part.Span.From) < 0 {
			rest = append(rest, api.Span{From: slices.Clone(from), To: slices.Clone(part.Span.From)})
		}
		if len(part.Span.To) == 0 {
			return parts, rest
		}
		from = part.Span.To
	}
	if endsBehind(p, from) {
		rest = append(rest, api.Span{From: slices.Clone(from), To: slices.Clone(p.To)})
	}
	return parts, rest
}
