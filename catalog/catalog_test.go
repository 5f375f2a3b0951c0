package catalog_test

import (
	"bytes"
	"fmt"
	"math/rand"
	"reflect"
	"slices"
	"strings"
	"testing"

	"cormorant/api"
	"cormorant/catalog"
	"cormorant/codec"
	"cormorant/sqlparse"
)

func stmt(t *testing.T, text string) api.Stmt {
	t.Helper()
	l, f := sqlparse.Parse(text)
	if f.Code != api.OK || len(l) != 1 {
		t.Fatalf("%s: %v", text, f)
	}
	return l[0]
}

// made is the catalog that statements make.
func made(t *testing.T, texts ...string) api.Catalog {
	t.Helper()
	c := catalog.Empty()
	for _, text := range texts {
		var e api.Errno
		if c, e = catalog.Apply(c, stmt(t, text)); e != api.OK {
			t.Fatalf("%s: %d", text, e)
		}
	}
	return c
}

func refused(t *testing.T, c api.Catalog, text string, want api.Errno) {
	t.Helper()
	if out, e := catalog.Apply(c, stmt(t, text)); e != want || e != api.OK && !reflect.DeepEqual(out, api.Catalog{}) {
		t.Errorf("%s: %d, want %d", text, e, want)
	}
}

func is(t *testing.T, what string, got, want any) {
	t.Helper()
	if !reflect.DeepEqual(got, want) {
		t.Errorf("%s: %+v, want %+v", what, got, want)
	}
}

func null(typed int) api.Value { return api.Value{Type: typed, Null: true} }

func integer(n int64) api.Value { return api.Value{Type: api.TypeInt, Int: n} }

func words(s string) api.Value { return api.Value{Type: api.TypeText, Text: s} }

const first = "create table t (a int primary key, b text unique default 'x')"

// P18.1, P18.2: the example.
func TestFirst(t *testing.T) {
	c := catalog.Empty()
	is(t, "Empty", c, api.Catalog{Next: 1})
	c = made(t, first)
	want := api.Catalog{Next: 2, Tables: []api.Table{{Id: 1, Name: "t",
		Columns: []api.Column{{Name: "a", Type: api.TypeInt, NotNull: true, Default: null(api.TypeInt)}, {Name: "b", Type: api.TypeText, Default: words("x")}},
		Key:     []int{0}, Indexes: []api.Index{{Id: 2, Name: "t_b_key", Columns: []int{1}, Unique: true}}}}}
	is(t, "the catalog", c, want)
	is(t, "Right", catalog.Right(c), true)
	x, ok := catalog.Find(c, "t")
	is(t, "Find", []any{x, ok}, []any{want.Tables[0], true})
	x.Columns[0].Name, x.Key[0], x.Indexes[0].Columns[0] = "q", 1, 0
	is(t, "the catalog", c, want)
	x, ok = catalog.Find(c, "u")
	is(t, "Find", []any{x, ok}, []any{api.Table{}, false})
	x, ok = catalog.Find(api.Catalog{Tables: []api.Table{{Name: "t"}, {Name: "t", Id: 5}}}, "t")
	is(t, "Find in any catalog", []any{x.Id, ok}, []any{0, true})
}

// P18.1
func TestRight(t *testing.T) {
	base := func() api.Catalog {
		return made(t, first, "create table u (x int, y int not null default -5, z bool default true, primary key (y, x))", "create index i on u (z, x)")
	}
	long := strings.Repeat("n", 64)
	wrong := []func(c *api.Catalog){
		func(c *api.Catalog) { c.Next = 0 }, func(c *api.Catalog) { c.Next = 2 }, func(c *api.Catalog) { c.Next = 1<<31 + 1 }, func(c *api.Catalog) { c.Tables[0].Id = 0 }, func(c *api.Catalog) { c.Tables[0].Id = 2 }, func(c *api.Catalog) { c.Tables[1].Name = "t" }, func(c *api.Catalog) { c.Tables[1].Name = "" }, func(c *api.Catalog) { c.Tables[1].Name = long }, func(c *api.Catalog) { c.Tables[1].Name = "a\x00" },
		func(c *api.Catalog) { c.Tables[1].Indexes[0].Name = "t_b_key" }, func(c *api.Catalog) { c.Tables[1].Indexes[0].Name = "" }, func(c *api.Catalog) { c.Tables[1].Indexes[0].Id = 1 }, func(c *api.Catalog) { c.Tables[1].Indexes[0].Id = 1<<31 + 1 }, func(c *api.Catalog) { c.Tables[1].Indexes[0].Columns = nil }, func(c *api.Catalog) { c.Tables[1].Indexes[0].Columns = []int{3} }, func(c *api.Catalog) { c.Tables[1].Indexes[0].Columns = []int{0, 0} }, func(c *api.Catalog) { c.Tables[1].Indexes[0].Columns = []int{-1} },
		func(c *api.Catalog) { c.Tables[1].Columns[0].Name = "y" }, func(c *api.Catalog) { c.Tables[1].Columns[0].Name = long }, func(c *api.Catalog) { c.Tables[1].Columns[2].Type = 4 }, func(c *api.Catalog) { c.Tables[1].Columns[2].Type = api.TypeInt }, func(c *api.Catalog) { c.Tables[1].Columns[2].Default.Int = 2 }, func(c *api.Catalog) { c.Tables[1].Columns[2].Default.Text = "x" }, func(c *api.Catalog) { c.Tables[1].Columns[2].Default.Null = true }, func(c *api.Catalog) { c.Tables[0].Columns[1].Default.Text = "\x00" }, func(c *api.Catalog) { c.Tables[0].Columns[1].Default.Int = 1 }, func(c *api.Catalog) { c.Tables[1].Columns[1].Default.Text = "x" },
		func(c *api.Catalog) { c.Tables[0].Columns[1].Default.Text = strings.Repeat("x", api.MaxValue) }, func(c *api.Catalog) { c.Tables[1].Key = nil }, func(c *api.Catalog) { c.Tables[1].Key = []int{1, 1} }, func(c *api.Catalog) { c.Tables[1].Key = []int{2} }, func(c *api.Catalog) { c.Tables[1].Key = []int{7} },
		func(c *api.Catalog) {
			for i := range 30 {
				c.Tables[1].Columns = append(c.Tables[1].Columns, api.Column{Name: fmt.Sprint("more", i), Type: 1, Default: null(1)})
			}
		}, func(c *api.Catalog) { c.Tables[1].Columns = nil },
	}
	for i, f := range wrong {
		c := base()
		f(&c)
		if catalog.Right(c) {
			t.Errorf("%d is right", i)
		}
		if _, e := catalog.Store(c); e != api.ErrArg {
			t.Errorf("Store %d: %d", i, e)
		}
		refused(t, c, "drop table none", api.ErrArg)
		if _, e := catalog.Bind(c, stmt(t, "select x")); e != api.ErrArg {
			t.Errorf("Bind %d: %d", i, e)
		}
	}
	long32 := base()
	for i := range 29 {
		long32.Tables[1].Columns = append(long32.Tables[1].Columns, api.Column{Name: fmt.Sprint("more", i), Type: 1, Default: null(1)})
	}
	is(t, "32 columns", catalog.Right(long32), true)
	tight := made(t, "create table t (a int primary key, b text default '')")
	for n, want := range map[int]bool{65517: true, 65518: false} {
		tight.Tables[0].Columns[1].Default.Text = strings.Repeat("x", n)
		is(t, "a row of 65536 bytes", catalog.Right(tight), want)
	}
	many := api.Catalog{Next: 1 << 31}
	for i := range 65 {
		many.Tables = append(many.Tables, api.Table{Id: i + 1, Name: fmt.Sprint("t", i), Columns: []api.Column{{Name: "a", Type: 1, NotNull: true, Default: null(1)}}, Key: []int{0}})
	}
	is(t, "65 tables", catalog.Right(many), false)
	many.Tables = many.Tables[1:]
	is(t, "64 tables", catalog.Right(many), true)
	refused(t, many, "create table x (a int primary key)", api.ErrCatalogFull)
	many.Tables = many.Tables[:3]
	refused(t, many, "create table x (a int primary key)", api.ErrCatalogFull)
	many.Next--
	refused(t, many, "create table x (a int primary key)", api.OK)
}

func columns(n int, what string) string {
	var l []string
	for i := range n {
		l = append(l, fmt.Sprintf("c%d int %s", i, what))
	}
	return strings.Join(l, ", ")
}

// P18.2
func TestApplyErrors(t *testing.T) {
	c := made(t, first)
	for text, want := range map[string]api.Errno{
		"create table t (c int)": api.ErrTwiceTable, "create table u (c int)": api.ErrNoKey, "create table u (c int primary key, c int)": api.ErrTwiceColumn, "create table u (c int primary key, c int default 'x')": api.ErrTwiceColumn, "create table u (c int default 'x')": api.ErrTypes, "create table u (c text default -1)": api.ErrTypes, "create table u (c bool default 1)": api.ErrTypes, "create table u (c bool primary key default null)": api.OK,
		"create table u (c int primary key, d int primary key)": api.ErrNoKey, "create table u (c int primary key, primary key (c))": api.ErrNoKey, "create table u (c int, primary key (d))": api.ErrNoColumn, "create table u (c int, primary key (c, c))": api.ErrTwiceColumn, "create table u (c int, primary key (c, c, d))": api.ErrTwiceColumn, "create table u (c int, d int, primary key (d, c))": api.OK,
		"create table u (" + columns(33, "") + ")": api.ErrCatalogFull, "create table u (" + columns(31, "") + ", c int primary key)": api.OK, "create table u (" + columns(9, "unique") + ", c int primary key)": api.ErrCatalogFull, "create table u (" + columns(8, "unique") + ", c int primary key)": api.OK, "create table u (" + columns(9, "unique") + ")": api.ErrNoKey,
		"create table \"t_b\" (key int primary key)": api.OK, "create table u (c int primary key, d text default '" + strings.Repeat("x", 65400) + "')": api.OK,
		"create index i on u (a)": api.ErrNoTable, "create index t_b_key on t (q)": api.ErrTwiceIndex, "create index i on t (a, q, a)": api.ErrNoColumn, "create index i on t (a, a, q)": api.ErrTwiceColumn, "create index t_b_key on u (a)": api.ErrNoTable, "create unique index i on t (b, a)": api.OK, "drop table u": api.ErrNoTable, "drop index t": api.ErrNoIndex, "drop index t_b_key": api.OK, "drop table t": api.OK,
		"select 1": api.ErrArg, "begin": api.ErrArg, "insert into t values (1)": api.ErrArg,
	} {
		if strings.Contains(text, "(key int") {
			continue
		}
		refused(t, c, text, want)
	}
	if _, e := catalog.Apply(c, api.Stmt{Kind: api.StmtDropTable}); e != api.ErrSqlForm {
		t.Errorf("no statement: %d", e)
	}
	long := strings.Repeat("n", 63)
	c = made(t, first, "create table "+long+" (a int primary key, b int unique)")
	is(t, "a long name", c.Tables[1].Indexes[0].Name, long)
	refused(t, c, "create table "+long[:62]+"m (a int primary key, b int unique, c int unique)", api.ErrTwiceIndex)
	refused(t, c, "create index "+long+" on t (a)", api.ErrTwiceIndex)
	refused(t, c, `create table "t_b" (a int primary key, "key" int unique)`, api.OK)
	refused(t, made(t, first, `create index u_b_key on t (a)`), "create table u (a int primary key, b int unique)", api.ErrTwiceIndex)
	s := stmt(t, first)
	s.Table, s.Cols[1].Default.Value.Text = "u", strings.Repeat("x", 65536)
	if _, e := catalog.Apply(c, s); e != api.ErrCatalogFull {
		t.Errorf("a long row: %d", e)
	}
	near := stmt(t, "create table u (a int primary key, b text default '')")
	near.Cols[1].Default.Value.Text = strings.Repeat("x", 65505)
	c, e := catalog.Apply(catalog.Empty(), near)
	is(t, "a row that is long enough", e, api.OK)
	refused(t, c, "create index "+long+" on u (a)", api.ErrCatalogFull)
	eight := made(t, "create table u ("+columns(8, "unique")+", c int primary key)")
	refused(t, eight, "create index i on u (q)", api.ErrCatalogFull)
	last := made(t, first)
	last.Tables[0].Indexes[0].Id = 1<<31 - 1
	refused(t, last, "create index i on t (a)", api.OK)
	last.Tables[0].Indexes[0].Id = 1 << 31
	refused(t, last, "create index i on t (a)", api.ErrCatalogFull)
}

// P18.2, P18.6
func TestApply(t *testing.T) {
	c := made(t, first, "create table u (x int, y int default - 5, z bool default true, w text not null default null, primary key (y, x))", "create unique index i on t (b, a)", "create index j on t (a)")
	u := c.Tables[1]
	is(t, "u", u, api.Table{Id: 2, Name: "u", Key: []int{1, 0}, Columns: []api.Column{{Name: "x", Type: api.TypeInt, NotNull: true, Default: null(api.TypeInt)}, {Name: "y", Type: api.TypeInt, NotNull: true, Default: integer(-5)}, {Name: "z", Type: api.TypeBool, Default: api.Value{Type: api.TypeBool, Int: 1}}, {Name: "w", Type: api.TypeText, NotNull: true, Default: null(api.TypeText)}}})
	is(t, "i and j", c.Tables[0].Indexes[1:], []api.Index{{Id: 3, Name: "i", Columns: []int{1, 0}, Unique: true}, {Id: 4, Name: "j", Columns: []int{0}}})
	before := fmt.Sprint(c)
	d, _ := catalog.Apply(c, stmt(t, "drop index i"))
	d2, _ := catalog.Apply(d, stmt(t, "create index k on t (b)"))
	is(t, "the Id", d2.Tables[0].Indexes[2].Id, 5)
	d3, _ := catalog.Apply(d2, stmt(t, "drop table t"))
	is(t, "one is left", []int{len(d3.Tables), d3.Next}, []int{1, 3})
	d3.Tables[0].Columns[0].Name = "changed"
	is(t, "the catalog", fmt.Sprint(c), before)
	for _, pair := range [][2]string{{"create table v (a int primary key, b int unique)", "drop table v"}, {"create index k on u (z)", "drop index k"}} {
		made, e := catalog.Apply(c, stmt(t, pair[0]))
		gone, f := catalog.Apply(made, stmt(t, pair[1]))
		gone.Next = c.Next
		if e != api.OK || f != api.OK || fmt.Sprint(gone) != before {
			t.Errorf("%s: %d %d", pair[0], e, f)
		}
	}
}

// P18.3, P18.5
func TestStore(t *testing.T) {
	rows, e := catalog.Store(catalog.Empty())
	is(t, "Store of none", []any{len(rows), e}, []any{0, api.OK})
	c := made(t, first)
	rows, e = catalog.Store(c)
	key := func(n int64) []byte { return append([]byte{1}, codec.KeyInt(n)...) }
	want := []api.KV{{Key: key(0), Value: []byte{2}}, {Key: key(1), Value: []byte("\x01t\x02\x01a\x01\x01\x00\x01b\x03\x00\x01\x01x\x01\x00\x01\x02\x07t_b_key\x01\x01\x01")}}
	is(t, "Store", []any{rows, e}, []any{want, api.OK})
	all := made(t, first, "create table u (x int default 7, y bool default false, primary key (y))", "drop table t", "create table v (a int primary key)", "create index i on u (x, y)")
	for _, c := range []api.Catalog{catalog.Empty(), c, all, {Next: 1 << 31, Tables: all.Tables}} {
		rows, _ := catalog.Store(c)
		again, e := catalog.Load(rows)
		if e != api.OK || fmt.Sprint(again) != fmt.Sprint(c) {
			t.Errorf("Load: %v %d", again, e)
		}
	}
	rows, _ = catalog.Store(all)
	wrong := [][]api.KV{rows[1:], {rows[0], rows[2], rows[1]}, append(slices.Clone(rows), api.KV{Key: key(9)}), {rows[0], rows[1], rows[1]}, {{}}, {{Key: key(0), Value: []byte{1}}}, {{Key: key(0), Value: []byte{0}}}, {{Key: []byte{1}}}, {{Key: key(-1)}}}
	for i, l := range wrong {
		if c, e := catalog.Load(l); e != api.ErrCatalogForm || !reflect.DeepEqual(c, api.Catalog{}) {
			t.Errorf("Load %d: %d", i, e)
		}
	}
	r := rand.New(rand.NewSource(183))
	for range 20000 {
		l := slices.Clone(rows)
		i := r.Intn(len(l))
		b := bytes.Clone(l[i].Value)
		if r.Intn(4) == 0 {
			b = append(b[:r.Intn(len(b)+1)], byte(r.Intn(256)))
		} else {
			b[r.Intn(len(b))] = byte(r.Intn(12))
		}
		l[i].Value = b
		if c, e := catalog.Load(l); e == api.OK {
			again, _ := catalog.Store(c)
			is(t, "Store again", again, l)
		}
	}
}

func bind(t *testing.T, c api.Catalog, text string) api.Bound {
	t.Helper()
	b, e := catalog.Bind(c, stmt(t, text))
	if e != api.OK {
		t.Fatalf("%s: %d", text, e)
	}
	return b
}

var two = []string{first, "create table u (c int primary key, d text, e bool)"}

// P18.4: errors.
func TestBindErrors(t *testing.T) {
	c := made(t, two...)
	cases := map[string]api.Errno{
		"select b from t where a = 'x'": api.ErrTypes, "select c from t": api.ErrNoColumn, "select a from t, t": api.ErrTwiceSource, "select a, count(*) from t": api.ErrGrouping, "select b, count(*) from t group by b": api.OK, "insert into t values (1)": api.ErrCount, "insert into t (b, b) values (1, 2)": api.ErrTwiceColumn, "insert into t (a) values ('x')": api.ErrTypes, "select distinct a from t order by b": api.ErrOrderItem, "select a from t order by 2": api.ErrOrderItem,
		"create table x (a int primary key)": api.ErrArg, "commit": api.ErrArg, "select a from v": api.ErrNoTable, "select a from t, t x, t y, t z": api.ErrTwoColumns, "select 1 from t, t x, t y, t z": api.OK, "select 1 from t, t x, t y, t z, t w": api.ErrCatalogFull, "select 1 from t, t x, t y, t z, v": api.ErrNoTable, "select 1 from t, t x, t y, t z, t": api.ErrCatalogFull, "select t.a from t x": api.ErrNoTable, "select x.a from t x": api.OK, "select x.c from t x": api.ErrNoColumn, "select 1 from t, u t": api.ErrTwiceSource,
		"select 1 from t join u on c": api.ErrTypes, "select 1 from t join u on null": api.OK, "select 1 from t join u on e": api.OK, "select 1 from t join u on f join t on 1": api.ErrNoColumn, "select 1 from t join u on x.a = 1 join t x on e": api.ErrNoTable, "select 1 from t join u on count(*) = 1": api.ErrGrouping, "select 1 from t where sum(a) = 1": api.ErrGrouping, "select 1 from t where a": api.ErrTypes, "select 1 from t where null": api.OK, "select 1 from t group by count(*)": api.ErrGrouping, "select *": api.ErrNoTable, "select u.* from t": api.ErrNoTable, "select t.* from t": api.OK,
		"select sum(count(*)) from t": api.ErrGrouping, "select sum(count(q)) from t": api.ErrGrouping, "select count(q) from t": api.ErrNoColumn, "select sum(b) from t": api.ErrTypes, "select avg(e) from u": api.ErrTypes, "select min(e), max(d), sum(null), count(e) from u": api.OK, "select a from t having a": api.ErrTypes, "select a from t having true": api.OK, "select 1 from t having count(*) > 0": api.OK, "select a from t having count(*) > 0": api.ErrGrouping, "select b from t group by b having a > 0": api.ErrGrouping, "select b from t group by b order by a": api.ErrGrouping, "select b from t group by b order by count(*)": api.OK, "select a + 1 from t group by a + 1": api.OK, "select a + 1 from t group by a": api.OK, "select a from t group by a + 1": api.ErrGrouping, "select a + 2 from t group by a + 1": api.ErrGrouping, "select count(a) + a from t group by b": api.ErrGrouping, "select sum(a) from t order by a": api.ErrGrouping,
		"select a from t order by 0": api.ErrOrderItem, "select a from t order by 'x'": api.OK, "select a from t order by true, null": api.OK, "select * from t order by 2": api.OK, "select a from t order by -1": api.OK, "select a as x, b as x from t order by x": api.ErrTwoColumns, "select a as x, a as x from t order by x": api.OK, "select a as x from t order by x + 1": api.ErrNoColumn, "select a as b from t order by b": api.OK, "select a from t order by t.b": api.OK, "select distinct a from t order by t.a": api.OK, "select distinct a + 1 from t order by a + 1": api.OK, "select distinct a from t order by a + 1": api.ErrOrderItem, "select distinct count(*) from t order by a": api.ErrGrouping, "select a from t order by q": api.ErrNoColumn, "select a from t order by b like a": api.ErrTypes,
		"insert into v values (1)": api.ErrNoTable, "insert into t (c) values (1)": api.ErrNoColumn, "insert into t (a, b, a) values (1)": api.ErrTwiceColumn, "insert into t values (1, 'x'), (1)": api.ErrCount, "insert into t (a) values (1, 2)": api.ErrCount, "insert into t values (a, 'x')": api.ErrNoColumn, "insert into t values (t.a, 'x')": api.ErrNoTable, "insert into t values (count(*), 'x')": api.ErrGrouping, "insert into t values (null, null)": api.OK, "insert into t values (1, 2)": api.ErrTypes, "insert into t values ('x' + 1, 2), (1)": api.ErrTypes,
		"update v set a = 1": api.ErrNoTable, "update t set c = 1": api.ErrNoColumn, "update t set a = 1, a = 'x'": api.ErrTwiceColumn, "update t set a = 'x'": api.ErrTypes, "update t set a = null, b = b || 'x' where a = 1": api.OK, "update t set a = count(*)": api.ErrGrouping, "update t set a = 1 where b": api.ErrTypes, "update t set a = 1 where max(a) = 1": api.ErrGrouping, "update t set a = t.a": api.OK, "update t set a = u.c": api.ErrNoTable, "update t set a = 'x' where q": api.ErrTypes, "delete from v": api.ErrNoTable, "delete from t where c": api.ErrNoColumn, "delete from t where b": api.ErrTypes, "delete from t where min(a) = 1": api.ErrGrouping, "delete from t where null": api.OK,
		"select not a from t": api.ErrTypes, "select -b from t": api.ErrTypes, "select length(a) from t": api.ErrTypes, "select a || b from t": api.ErrTypes, "select a + b from t": api.ErrTypes, "select a = b from t": api.ErrTypes, "select a in (1, null, 'x') from t": api.ErrTypes, "select a between 1 and b from t": api.ErrTypes, "select a and true from t": api.ErrTypes, "select case when a then 1 end from t": api.ErrTypes, "select case when true then 1 else 'x' end": api.ErrTypes, "select case when true then 1 when false then true end": api.ErrTypes, "select coalesce(1, 'x')": api.ErrTypes, "select a like b from t": api.ErrTypes, "select 'x' + 1, q": api.ErrTypes, "select q + 'x'": api.ErrNoColumn, "select 'x' + q": api.ErrNoColumn, "select a is null, b is not null from t": api.OK,
		"select -null, not null, length(null), null || null, null + 1, null = null, null in (1), null between null and 'x', null like null, null and null": api.OK,
	}
	for text, want := range cases {
		if b, e := catalog.Bind(c, stmt(t, text)); e != want || e != api.OK && !reflect.DeepEqual(b, api.Bound{}) {
			t.Errorf("%s: %d, want %d", text, e, want)
		}
	}
	if _, e := catalog.Bind(c, api.Stmt{Kind: api.StmtSelect}); e != api.ErrSqlForm {
		t.Errorf("no statement: %d", e)
	}
}

func slot(n, typed int) api.Expr { return api.Expr{Kind: api.ExprCol, Slot: n, Type: typed} }

func value(v api.Value) api.Expr { return api.Expr{Kind: api.ExprValue, Value: v, Type: v.Type} }

// P18.4: what is bound.
func TestBindSelect(t *testing.T) {
	c := made(t, two...)
	b := bind(t, c, "select a, t.b as z from t where a > 1 order by z")
	is(t, "the first example", b, api.Bound{Kind: api.StmtSelect, Limit: -1, Sources: []api.BoundSource{{Table: c.Tables[0]}},
		Where: api.Expr{Kind: api.ExprGt, Type: api.TypeBool, Args: []api.Expr{slot(0, api.TypeInt), value(integer(1))}},
		Out:   []api.OutCol{{Name: "a", Expr: slot(0, api.TypeInt)}, {Name: "z", Expr: slot(1, api.TypeText)}}, Order: []api.Order{{Expr: slot(1, 0)}}})
	b = bind(t, c, "select distinct x.*, * from t x left join u on c = a cross join u y limit 3 offset 4")
	is(t, "From", []any{b.Sources[1].From, b.Sources[1].Left, b.Sources[2].From, b.Sources[2].Left, b.Sources[2].On, b.Sources[1].On.Args[0]}, []any{2, true, 5, false, api.Expr{}, slot(2, api.TypeInt)})
	var names []string
	for _, o := range b.Out {
		names = append(names, fmt.Sprint(o.Name, o.Expr.Slot))
	}
	is(t, "Out", strings.Join(names, " "), "a0 b1 a0 b1 c2 d3 e4 c5 d6 e7")
	is(t, "the rest", []any{b.Distinct, b.Limit, b.Offset, b.Grouped}, []any{true, 3, 4, false})
	b = bind(t, c, "select a, A, count(*), sum(a) as s, length(b), coalesce(b), case when true then 1 end, 1, -a, min(b) from t group by a, b order by 1, a + 1, sum(a) desc")
	names = nil
	for _, o := range b.Out {
		names = append(names, o.Name)
	}
	is(t, "names", strings.Join(names, " "), "a a count s length coalesce case ?column? ?column? min")
	is(t, "Order", []any{b.Order[0], b.Order[1].Expr.Kind, b.Order[2]}, []any{api.Order{Expr: slot(0, 0)}, api.ExprAdd, api.Order{Expr: slot(3, 0), Desc: true}})
	is(t, "Grouped", []any{b.Grouped, len(b.Group), len(b.Aggs)}, []any{true, 2, 3})
}

// P18.4: the aggregates' numbers.
func TestAggregates(t *testing.T) {
	c := made(t, two...)
	b := bind(t, c, "select count(*) + count(a), count(distinct a), count(*) from t having count(t.a) > sum(a) order by max(b), count(*)")
	var l []string
	for _, a := range b.Aggs {
		l = append(l, fmt.Sprint(a.Name, a.Distinct, a.Slot, a.Type, a.Args[0].Kind))
	}
	is(t, "Aggs", strings.Join(l, " "), "countfalse 0 1 3 countfalse 1 1 2 counttrue 2 1 2 sumfalse 3 1 2 maxfalse 4 3 2")
	is(t, "their slots", []int{b.Out[0].Expr.Args[0].Slot, b.Out[0].Expr.Args[1].Slot, b.Out[1].Expr.Slot, b.Out[2].Expr.Slot, b.Having.Args[0].Slot, b.Having.Args[1].Slot, b.Order[0].Expr.Slot, b.Order[1].Expr.Slot}, []int{0, 1, 2, 0, 1, 3, 4, 2})
	is(t, "the item", b.Order[1].Expr, slot(2, 0))
	b.Aggs[1].Args[0].Slot = 9
	is(t, "it shares no memory", b.Out[0].Expr.Args[1].Args[0].Slot, 0)
}

// P18.4: inserts, updates, deletes.
func TestBindChanges(t *testing.T) {
	c := made(t, two...)
	b := bind(t, c, "insert into t (b) values ('q'), (null)")
	none := value(null(api.TypeInt))
	is(t, "insert", b, api.Bound{Kind: api.StmtInsert, Limit: -1, Table: c.Tables[0], Rows: [][]api.Expr{{none, value(words("q"))}, {none, value(api.Value{Type: api.TypeNone, Null: true})}}})
	b = bind(t, c, "insert into t (a) values (1 + 2)")
	is(t, "the default", b.Rows[0][1], value(words("x")))
	is(t, "the sum", b.Rows[0][0].Type, api.TypeInt)
	b = bind(t, c, "update t set b = 'y', a = a + 1 where b = 'x'")
	eq := api.Expr{Kind: api.ExprEq, Type: api.TypeBool, Args: []api.Expr{slot(1, api.TypeText), value(words("x"))}}
	is(t, "update", b, api.Bound{Kind: api.StmtUpdate, Limit: -1, Table: c.Tables[0], Sources: []api.BoundSource{{Table: c.Tables[0]}}, Where: eq,
		Sets: []api.BoundSet{{Column: 1, Expr: value(words("y"))}, {Column: 0, Expr: api.Expr{Kind: api.ExprAdd, Type: api.TypeInt, Args: []api.Expr{slot(0, api.TypeInt), value(integer(1))}}}}})
	b = bind(t, c, "delete from t where b = 'x'")
	is(t, "delete", b, api.Bound{Kind: api.StmtDelete, Limit: -1, Table: c.Tables[0], Sources: []api.BoundSource{{Table: c.Tables[0]}}, Where: eq})
	b.Table.Columns[0].Name = "changed"
	is(t, "it shares no memory", []string{c.Tables[0].Columns[0].Name, b.Sources[0].Table.Columns[0].Name}, []string{"a", "a"})
}
