package cluster

import (
	"cmp"
	"slices"

	"cormorant/api"
	"cormorant/hlc"
)

// deal is a transaction as clients see it.
type deal struct {
	conn    int
	queries []int
	end     api.Stamp
	wrote   bool
	done    bool // it has committed
}

// ran notes that a query ran a statement in it.
func (d *deal) ran(query int) {
	if !slices.Contains(d.queries, query) {
		d.queries = append(d.queries, query)
	}
}

// committed notes that a transaction has, once.
func (c *Cluster) committed(d *deal, end api.Stamp, wrote bool) {
	if d == nil || d.done || len(d.queries) == 0 {
		return
	}
	d.done, d.end, d.wrote = true, end, wrote
	c.order = append(c.order, d)
}

// Order are the transactions that have committed, as if one had been done behind the other.
func (c *Cluster) Order() []api.Commit {
	sorted := slices.Clone(c.order)
	slices.SortStableFunc(sorted, func(a, b *deal) int {
		return cmp.Or(hlc.Compare(a.end, b.end), cmp.Compare(rank(a), rank(b)))
	})
	var l []api.Commit
	for _, d := range sorted {
		l = append(l, api.Commit{Conn: d.conn, Queries: slices.Sorted(slices.Values(d.queries)), End: d.end})
	}
	return l
}

// rank lets those that wrote precede those that read.
func rank(d *deal) int {
	if d.wrote {
		return 0
	}
	return 1
}
