package catalog_test

import (
	"testing"

	"cormorant/api"
	"cormorant/expr"
)

// P18.7
func TestBoundAreRight(t *testing.T) {
	c := made(t, two...)
	for _, text := range []string{
		"select a, b, c + 1, d || b, e, case when e then a else c end, coalesce(null, d), a in (1, null), count(*), max(e), sum(a), avg(null) from t left join u on a = c and b like d where e or null group by a, b, c, d, e having count(distinct a) > 1 order by min(d), length(b)",
		"update t set a = -a, b = null where a between 1 and null", "insert into t values (1 % 2, null), (null, 'x' || 'y')", "delete from t where b is not null",
	} {
		b := bind(t, c, text)
		var row, types []int
		for _, s := range b.Sources {
			for _, c := range s.Table.Columns {
				row = append(row, c.Type)
			}
		}
		for _, a := range b.Aggs {
			types = append(types, a.Type)
		}
		check := func(e api.Expr, aggs []int) {
			t.Helper()
			if e.Kind != 0 && !expr.Right(e, row, aggs) {
				t.Errorf("%s: %+v", text, e)
			}
		}
		for _, s := range b.Sources {
			check(s.On, nil)
		}
		check(b.Where, nil)
		check(b.Having, types)
		for _, g := range b.Group {
			check(g, nil)
		}
		for _, a := range b.Aggs {
			check(a, types)
		}
		for _, o := range b.Out {
			check(o.Expr, types)
		}
		for _, o := range b.Order {
			if o.Expr.Type != 0 {
				check(o.Expr, types)
			}
		}
		for _, r := range b.Rows {
			for _, e := range r {
				check(e, nil)
			}
		}
		for _, s := range b.Sets {
			check(s.Expr, nil)
		}
	}
}
