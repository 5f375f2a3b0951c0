package sqlplan_test

import (
	"fmt"
	"math/rand"
	"reflect"
	"slices"
	"strings"
	"testing"

	"cormorant/api"
	"cormorant/catalog"
	"cormorant/expr"
	"cormorant/sqlparse"
	"cormorant/sqlplan"
)

const tables = "create table y (e int primary key, f int, g int); create index yf on y (f); create index yf2 on y (f); create index yfg on y (f, g); create table t (a int primary key, b int); create unique index tb on t (b); create table u (c int primary key, d int); create table w (x int, y text, z bool, primary key (x, y)); create index wz on w (z, x)"

func world(t *testing.T) api.Catalog {
	t.Helper()
	l, f := sqlparse.Parse(tables)
	if f.Code != api.OK {
		t.Fatal(f)
	}
	c := catalog.Empty()
	for _, s := range l {
		var e api.Errno
		if c, e = catalog.Apply(c, s); e != api.OK {
			t.Fatalf("Apply: %d", e)
		}
	}
	return c
}

func bound(t *testing.T, text string) api.Bound {
	t.Helper()
	l, f := sqlparse.Parse(text)
	if f.Code != api.OK {
		t.Fatalf("%s: %v", text, f)
	}
	b, e := catalog.Bind(world(t), l[0])
	if e != api.OK {
		t.Fatalf("%s: %d", text, e)
	}
	return b
}

func plan(t *testing.T, text string) api.Plan {
	t.Helper()
	p, e := sqlplan.Plan(bound(t, text))
	if e != api.OK {
		t.Fatalf("%s: %d", text, e)
	}
	return p
}

func one(x api.Expr) string {
	switch x.Kind {
	case 0:
		return ""
	case api.ExprValue:
		if x.Value.Type == api.TypeText {
			return "'" + x.Value.Text + "'"
		}
		return fmt.Sprint(x.Value.Int)
	case api.ExprCol:
		return fmt.Sprint("#", x.Slot)
	}
	return "?"
}

// show is a plan in short.
func show(p api.Plan) string {
	var l []string
	for _, a := range p.Sources {
		s := []string{"", "scan", "span", "lookup"}[a.Way] + fmt.Sprint(a.Index)
		for _, x := range a.Equal {
			s += " =" + one(x)
		}
		for sign, x := range map[string]api.Bounded{">": a.Low} {
			if x.Expr.Kind != 0 {
				s += " " + sign + map[bool]string{false: "=", true: ""}[x.Open] + one(x.Expr)
			}
		}
		if x := a.High; x.Expr.Kind != 0 {
			s += " <" + map[bool]string{false: "=", true: ""}[x.Open] + one(x.Expr)
		}
		s += fmt.Sprintf(" f%d %g", len(a.Filters), a.Cost)
		l = append(l, s)
	}
	return strings.Join(l, "; ") + fmt.Sprintf(": %g", p.Cost)
}

// P21.2
func TestPlans(t *testing.T) {
	for text, want := range map[string]string{
		"select * from t":                                    "scan1 f0 (1000+0i): (1000+0i)",
		"select * from t where a = 5 and b > 1":              "span1 =5 f2 (1+0i): (1+0i)",
		"select * from t where b = 5":                        "span2 =5 f1 (1+1i): (1+1i)",
		"select * from t where 3 <= a and a < 9":             "span1 >=3 <9 f2 (333+0i): (333+0i)",
		"select * from t join u on c = t.b where a = 1":      "span1 =1 f1 (1+0i); lookup1 =#1 f1 (1+0i): (2+0i)",
		"select * from t left join u on c = t.a where d = 1": "scan1 f0 (1000+0i); lookup1 =#0 f1 (1+0i): (2000+0i)",
		"select 1":                                                                ": (0+0i)",
		"select 1 where false":                                                    ": (0+0i)",
		"delete from t where 1 = 1 and a > 1":                                     "span1 >1 f2 (333+0i): (333+0i)",
		"update t set b = 1 where b < 5":                                          "span2 <5 f1 (333+333i): (333+333i)",
		"select * from t where a > 1 and b = 2":                                   "span2 =2 f2 (1+1i): (1+1i)",
		"select * from t where a = null":                                          "scan1 f1 (1000+0i): (1000+0i)",
		"select * from t where a = b":                                             "scan1 f1 (1000+0i): (1000+0i)",
		"select * from t where a = 1 or b = 1":                                    "scan1 f1 (1000+0i): (1000+0i)",
		"select * from t where a = 1 + 1":                                         "scan1 f1 (1000+0i): (1000+0i)",
		"select * from t where a = -1":                                            "scan1 f1 (1000+0i): (1000+0i)",
		"select * from t where a <> 1":                                            "scan1 f1 (1000+0i): (1000+0i)",
		"select * from t where a = 1 and a = 2":                                   "span1 =1 f2 (1+0i): (1+0i)",
		"select * from t where 2 = a and a = 1":                                   "span1 =2 f2 (1+0i): (1+0i)",
		"select * from t where a > 1 and a >= 2 and 7 > a and 8 >= a and a < 9":   "span1 >1 <7 f5 (333+0i): (333+0i)",
		"select * from t where 1 < a and 2 <= a and a <= 7":                       "span1 >1 <=7 f3 (333+0i): (333+0i)",
		"select * from w where y = 'q'":                                           "scan1 f1 (1000+0i): (1000+0i)",
		"select * from w where y = 'q' and x = 1":                                 "span1 =1 ='q' f2 (1+0i): (1+0i)",
		"select * from w where x = 1 and y > 'q'":                                 "span1 =1 >'q' f2 (33+0i): (33+0i)",
		"select * from w where x = 1":                                             "span1 =1 f1 (100+0i): (100+0i)",
		"select * from w where z = true":                                          "span2 =1 f1 (100+100i): (100+100i)",
		"select * from w where z = true and x = 2":                                "span2 =1 =2 f2 (10+10i): (10+10i)",
		"select * from w where z = true and x = 2 and y >= 'a'":                   "span2 =1 =2 f3 (10+10i): (10+10i)",
		"select * from w where z = true and x > 2":                                "span2 =1 >2 f2 (33+33i): (33+33i)",
		"select * from w where z < true":                                          "span2 <1 f1 (333+333i): (333+333i)",
		"select * from t, u where a = c":                                          "scan1 f0 (1000+0i); lookup1 =#0 f1 (1+0i): (2000+0i)",
		"select * from t, u where d > b and c < 5":                                "scan1 f0 (1000+0i); span1 <5 f2 (333+0i): (334000+0i)",
		"select * from t, u where c > a":                                          "scan1 f0 (1000+0i); lookup1 >#0 f1 (333+0i): (334000+0i)",
		"select * from u, t where b = d and c = 1":                                "span1 =1 f1 (1+0i); lookup2 =#1 f1 (1+1i): (2+1i)",
		"select * from u, t where c > 0 and b = d":                                "span1 >0 f1 (333+0i); lookup2 =#1 f1 (1+1i): (666+333i)",
		"select * from t left join u on c = 1 and d = 2 where c = 3 and a = 4":    "span1 =4 f1 (1+0i); span1 =1 f1 (1+0i): (2+0i)",
		"select * from t left join u on a = 1 where b = 7":                        "span2 =7 f1 (1+1i); scan1 f0 (1000+0i): (1001+1i)",
		"select * from t join u on a = 1 join t x on x.a = u.d and t.b = 3":       "span1 =1 f2 (1+0i); scan1 f0 (1000+0i); lookup1 =#3 f1 (1+0i): (2001+0i)",
		"select * from t left join u on c = a join t x on x.a = c where x.b > 5":  "scan1 f0 (1000+0i); lookup1 =#0 f0 (1+0i); lookup1 =#2 f2 (1+0i): (3000+0i)",
		"select * from t where a = 1 and (b = 1 and (a > 2 and 1 = 1)) and b = 4": "span1 =1 f5 (1+0i): (1+0i)",
		"select * from y where f = 1":                                             "span2 =1 f1 (100+100i): (100+100i)",
		"select * from y where f = 1 and g = 2":                                   "span4 =1 =2 f2 (10+10i): (10+10i)",
		"select * from y where f = 1 and e > 0":                                   "span2 =1 f2 (100+100i): (100+100i)",
		"insert into t values (1, 2)":                                             ": (0+0i)",
	} {
		if got := show(plan(t, text)); got != want {
			t.Errorf("%s: %s, want %s", text, got, want)
		}
	}
}

// P21.1
func TestConjuncts(t *testing.T) {
	v := func(n int64) api.Expr {
		return api.Expr{Kind: api.ExprValue, Value: api.Value{Type: api.TypeInt, Int: n}}
	}
	and := func(l ...api.Expr) api.Expr { return api.Expr{Kind: api.ExprAnd, Args: l} }
	if l := sqlplan.Conjuncts(api.Expr{}); len(l) != 0 {
		t.Errorf("of none: %v", l)
	}
	not := api.Expr{Kind: api.ExprNot, Args: []api.Expr{and(v(8), v(9))}}
	x := and(and(v(1), and(v(2), not)), and(api.Expr{}, v(4)))
	l := sqlplan.Conjuncts(x)
	if !reflect.DeepEqual(l, []api.Expr{v(1), v(2), not, v(4)}) {
		t.Errorf("%v", l)
	}
	l[2].Args[0].Args[0].Value.Int = 77
	if not.Args[0].Args[0].Value.Int != 8 {
		t.Error("it shares memory")
	}
	if l := sqlplan.Conjuncts(api.Expr{Kind: api.ExprAnd}); len(l) != 0 {
		t.Errorf("of an and of nothing: %v", l)
	}
}

// P21.2: what cannot be planned.
func TestNoPlan(t *testing.T) {
	base := func() api.Bound {
		return bound(t, "select * from t left join w on a = x and z where b = 1 and y is null")
	}
	col := api.Expr{Kind: api.ExprCol, Slot: 2, Type: api.TypeInt}
	wrong := []func(b *api.Bound){
		func(b *api.Bound) { b.Kind = 0 }, func(b *api.Bound) { b.Kind = api.StmtCreateTable }, func(b *api.Bound) { b.Sources = slices.Repeat(b.Sources[:1], 5) }, func(b *api.Bound) { b.Sources[1].From = 3 }, func(b *api.Bound) { b.Sources[0].From = 1 }, func(b *api.Bound) { b.Sources[0].On = b.Where }, func(b *api.Bound) { b.Sources[0].Table.Columns[1].Type = 0 }, func(b *api.Bound) { b.Sources[0].Table.Columns[0].Type = 4 },
		func(b *api.Bound) { b.Sources[0].Table.Key = nil }, func(b *api.Bound) { b.Sources[0].Table.Key = []int{0, 0} }, func(b *api.Bound) { b.Sources[0].Table.Key = []int{2} }, func(b *api.Bound) { b.Sources[0].Table.Indexes[0].Columns = nil }, func(b *api.Bound) { b.Sources[0].Table.Indexes[0].Columns = []int{-1} }, func(b *api.Bound) { b.Sources[0].Table.Indexes[0].Columns = []int{1, 1} }, func(b *api.Bound) { b.Sources[0].Table.Indexes[0].Id = 1 },
		func(b *api.Bound) {
			b.Sources[0].Table.Indexes = append(b.Sources[0].Table.Indexes, b.Sources[0].Table.Indexes[0])
		},
		func(b *api.Bound) { b.Where.Type = api.TypeInt }, func(b *api.Bound) { b.Where = col }, func(b *api.Bound) { b.Where = api.Expr{Slot: 1} }, func(b *api.Bound) { b.Where.Args[0].Args[0].Slot = 9 },
		func(b *api.Bound) {
			b.Where = api.Expr{Kind: api.ExprAgg, Name: "max", Type: api.TypeBool, Args: []api.Expr{col}}
		},
		func(b *api.Bound) { b.Sources[1].On = col },
		func(b *api.Bound) {
			b.Sources = append(b.Sources, api.BoundSource{Table: b.Sources[0].Table, From: 5})
			b.Sources[1].On = api.Expr{Kind: api.ExprIsNull, Type: api.TypeBool, Args: []api.Expr{{Kind: api.ExprCol, Slot: 5, Type: api.TypeInt}}}
		},
	}
	for i, f := range wrong {
		b := base()
		f(&b)
		if p, e := sqlplan.Plan(b); e != api.ErrArg || !reflect.DeepEqual(p, api.Plan{}) {
			t.Errorf("%d: %d", i, e)
		}
	}
	for _, n := range []int{0, 4, -1} {
		x := bound(t, "select 1 from t, u")
		x.Sources[1].Table.Columns[1].Type = n
		if _, e := sqlplan.Plan(x); e != api.ErrArg {
			t.Errorf("a column of the type %d: %d", n, e)
		}
	}
	b := base()
	p, e := sqlplan.Plan(b)
	if e != api.OK {
		t.Fatalf("Plan: %d", e)
	}
	p.Sources[0].Filters[0].Args[0].Slot = 77
	p.Sources[0].Equal[0].Value.Int = 77
	if !reflect.DeepEqual(b, base()) {
		t.Error("it shares memory")
	}
	if p, e := sqlplan.Plan(api.Bound{Kind: api.StmtInsert, Where: col}); e != api.OK || len(p.Sources) != 0 {
		t.Errorf("an insert: %d", e)
	}
}

// pairing is rows side by side, and its error.
type pairing struct {
	row  []api.Value
	code api.Errno
}

// holds is whether something is true, or its error.
func eval(x api.Expr, row []api.Value) (api.Value, api.Errno) { return expr.Eval(x, row, nil) }

func isFalse(v api.Value, e api.Errno) bool { return e == api.OK && (v.Null || v.Int == 0) }

// allows tells whether an access allows a row behind others.
func allows(a api.Access, t api.Table, before, row []api.Value) bool {
	if a.Way == api.WayScan {
		return true
	}
	columns := t.Key
	for _, x := range t.Indexes {
		if x.Id == a.Index {
			columns = x.Columns
		}
	}
	known := func(x api.Expr) api.Value {
		if x.Kind == api.ExprCol {
			return before[x.Slot]
		}
		return x.Value
	}
	for i, x := range a.Equal {
		v, w := row[columns[i]], known(x)
		if v.Null || w.Null || expr.Order(v, w) != 0 {
			return false
		}
	}
	if len(a.Equal) == len(columns) {
		return true
	}
	v := row[columns[len(a.Equal)]]
	for i, l := range []api.Bounded{a.Low, a.High} {
		if l.Expr.Kind == 0 {
			continue
		}
		w := known(l.Expr)
		if v.Null || w.Null {
			return false
		}
		c := expr.Order(v, w)
		if i == 1 {
			c = -c
		}
		if c < 0 || c == 0 && l.Open {
			return false
		}
	}
	return true
}

// survivors are the pairings that do; with a plan, only what that allows is looked at.
func survivors(b api.Bound, rows [][][]api.Value, p *api.Plan) []pairing {
	now := []pairing{{}}
	for i, s := range b.Sources {
		var next []pairing
		for _, before := range now {
			var taken []pairing
			for _, r := range rows[i] {
				if p != nil && !allows(p.Sources[i], s.Table, before.row, r) {
					continue
				}
				x := pairing{row: append(slices.Clone(before.row), r...), code: before.code}
				if s.Left && s.On.Kind != 0 {
					v, e := eval(s.On, padded(b, x.row))
					if isFalse(v, e) {
						continue
					}
					if x.code == api.OK {
						x.code = e
					}
				}
				taken = append(taken, x)
			}
			if s.Left && len(taken) == 0 {
				x := pairing{row: slices.Clone(before.row), code: before.code}
				for _, c := range s.Table.Columns {
					x.row = append(x.row, api.Value{Type: c.Type, Null: true})
				}
				taken = append(taken, x)
			}
			next = append(next, taken...)
		}
		now = nil
		for _, x := range next {
			if p == nil || !slices.ContainsFunc(p.Sources[i].Filters, func(f api.Expr) bool { return isFalse(eval(f, padded(b, x.row))) }) {
				now = append(now, x)
			}
		}
	}
	return judge(b, now)
}

func padded(b api.Bound, row []api.Value) []api.Value {
	row = slices.Clone(row)
	n := 0
	for _, s := range b.Sources {
		for _, c := range s.Table.Columns {
			if n >= len(row) {
				row = append(row, api.Value{Type: c.Type, Null: true})
			}
			n++
		}
	}
	return row
}

// judge leaves the pairings that survive all conditions, with their errors.
func judge(b api.Bound, l []pairing) []pairing {
	var out []pairing
	for _, x := range l {
		code := api.OK
		lives := true
		check := func(c api.Expr) {
			v, e := eval(c, x.row)
			if isFalse(v, e) {
				lives = false
			}
			if code == api.OK {
				code = e
			}
		}
		for _, s := range b.Sources {
			if s.Left {
				if s.On.Kind != 0 && code == api.OK {
					if v, e := eval(s.On, x.row); !v.Null {
						code = e
					}
				}
				continue
			}
			for _, c := range sqlplan.Conjuncts(s.On) {
				check(c)
			}
		}
		for _, c := range sqlplan.Conjuncts(b.Where) {
			check(c)
		}
		if lives {
			x.code = code
			out = append(out, x)
		}
	}
	return out
}

// P21.3
func TestNothingIsLost(t *testing.T) {
	r := rand.New(rand.NewSource(213))
	names := []string{"t.a", "t.b", "u.c", "u.d", "x.a", "x.b"}
	term := func(n int) string {
		return []string{names[r.Intn(n)], names[r.Intn(n)], fmt.Sprint(r.Intn(4)), "null", "1 / (" + names[r.Intn(n)] + " - 1)"}[r.Intn(5)]
	}
	cond := func(n int) string {
		var l []string
		for range 1 + r.Intn(3) {
			l = append(l, term(n)+" "+[]string{"=", "=", "<", "<=", ">", ">=", "<>"}[r.Intn(7)]+" "+term(n))
		}
		return strings.Join(l, []string{" and ", " and ", " or "}[r.Intn(3)])
	}
	used := map[int]int{}
	for range 600 {
		text := "select 1 from t"
		for i, name := range []string{"u", "t as x"} {
			switch r.Intn(3) {
			case 0:
				text += " cross join " + name
			case 1:
				text += " join " + name + " on " + cond(4+2*i)
			case 2:
				text += " left join " + name + " on " + cond(4+2*i)
			}
		}
		if r.Intn(4) > 0 {
			text += " where " + cond(6)
		}
		b := bound(t, text)
		p, e := sqlplan.Plan(b)
		if e != api.OK {
			t.Fatalf("%s: %d", text, e)
		}
		rows := make([][][]api.Value, len(b.Sources))
		for i := range rows {
			for k := range 1 + r.Intn(5) {
				v := api.Value{Type: api.TypeInt, Int: int64(r.Intn(4))}
				if r.Intn(4) == 0 {
					v = api.Value{Type: api.TypeInt, Null: true}
				}
				rows[i] = append(rows[i], []api.Value{{Type: api.TypeInt, Int: int64(k)}, v})
			}
		}
		for _, a := range p.Sources {
			used[a.Way]++
		}
		if x, y := survivors(b, rows, nil), survivors(b, rows, &p); fmt.Sprint(x) != fmt.Sprint(y) {
			t.Fatalf("%s\n%v\n%v\n%s", text, x, y, show(p))
		}
	}
	if used[api.WayScan] < 50 || used[api.WaySpan] < 50 || used[api.WayLookup] < 50 {
		t.Errorf("%v", used)
	}
}

// P21.4
func TestSides(t *testing.T) {
	for _, pair := range [][2]string{{"select * from t where a = 5", "select * from t where 5 = a"}, {"select * from t join u on c = b where a = 1", "select * from t join u on b = c where 1 = a"}, {"select * from w where x = 1 and y = 'q'", "select * from w where 1 = x and 'q' = y"}} {
		if x, y := show(plan(t, pair[0])), show(plan(t, pair[1])); x != y {
			t.Errorf("%s: %s, %s", pair[0], x, y)
		}
	}
}
