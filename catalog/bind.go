package catalog

import (
	"slices"

	"cormorant/api"
	"cormorant/sqlparse"
)

// binder puts numbers in the place of a statement's names.
type binder struct {
	catalog api.Catalog
	scope   scope
	aggs    []api.Expr // of the statement
	allowed bool       // aggregates may stand here
}

// scope is the sources that are visible.
type scope struct {
	tables  map[string]source
	columns map[string]column
	slots   int
	list    []string // the sources' names, in their order
}

type source struct {
	table api.Table
	from  int
}

// column is what a name without a table stands for; of count sources.
type column struct {
	slot, typed, count int
}

func newScope() scope {
	return scope{tables: map[string]source{}, columns: map[string]column{}}
}

// add makes a table visible under a name; its first slot.
func (s *scope) add(name string, t api.Table) int {
	if _, there := s.tables[name]; there {
		refuse(api.ErrTwiceSource)
	}
	from := s.slots
	s.tables[name] = source{table: t, from: from}
	s.list = append(s.list, name)
	for i, c := range t.Columns {
		s.columns[c.Name] = column{slot: from + i, typed: c.Type, count: s.columns[c.Name].count + 1}
	}
	s.slots += len(t.Columns)
	return from
}

// Bind puts numbers in the place of a statement's names, and finds its types.
func Bind(c api.Catalog, s api.Stmt) (b api.Bound, e api.Errno) {
	if s.Kind < api.StmtSelect || s.Kind > api.StmtDelete || !Right(c) {
		return api.Bound{}, api.ErrArg
	}
	if e := sqlparse.Right(s); e != api.OK {
		return api.Bound{}, e
	}
	defer func() {
		if r, ok := recover().(refusal); ok {
			b, e = api.Bound{}, r.code
		}
	}()
	x := &binder{catalog: c, scope: newScope()}
	switch s.Kind {
	case api.StmtSelect:
		b = x.selected(s.Select)
	case api.StmtInsert:
		b = x.insert(s)
	default:
		b = x.changed(s)
	}
	b.Kind = s.Kind
	return b, api.OK
}

// table is a table by its name.
func (x *binder) table(name string) api.Table {
	return cloneTable(x.catalog.Tables[needTable(x.catalog, name)])
}

// condition binds what must be true or false, if it is there.
func (x *binder) condition(e api.Expr) api.Expr {
	if e.Kind == 0 {
		return api.Expr{}
	}
	e = x.expr(e)
	if !matches(e.Type, api.TypeBool) {
		refuse(api.ErrTypes)
	}
	return e
}

func (x *binder) sources(l []api.Source) []api.BoundSource {
	var out []api.BoundSource
	for i, s := range l {
		t := x.table(s.Table)
		if i >= api.MaxSources {
			refuse(api.ErrCatalogFull)
		}
		name := s.As
		if name == "" {
			name = s.Table
		}
		from := x.scope.add(name, t)
		out = append(out, api.BoundSource{Table: cloneTable(t), From: from, Left: s.Left, On: x.condition(s.On)})
	}
	return out
}

func (x *binder) selected(s api.Select) api.Bound {
	b := api.Bound{Distinct: s.Distinct, Limit: s.Limit, Offset: s.Offset}
	b.Sources = x.sources(s.From)
	b.Where = x.condition(s.Where)
	for _, e := range s.Group {
		b.Group = append(b.Group, x.expr(e))
	}
	x.allowed = true
	for _, i := range s.Items {
		b.Out = append(b.Out, x.item(i)...)
	}
	b.Having = x.condition(s.Having)
	for _, o := range s.Order {
		b.Order = append(b.Order, api.Order{Expr: x.order(b.Out, o.Expr), Desc: o.Desc})
	}
	b.Aggs = x.aggs
	b.Grouped = len(b.Group) > 0 || len(b.Aggs) > 0
	if b.Grouped {
		checkGroups(b)
	}
	if b.Distinct && slices.ContainsFunc(b.Order, func(o api.Order) bool { return !isItem(o.Expr) }) {
		refuse(api.ErrOrderItem)
	}
	return b
}

// isItem tells whether a bound expression of an order refers to an item.
func isItem(e api.Expr) bool { return e.Kind == api.ExprCol && e.Type == 0 }

func itemRef(i int) api.Expr { return api.Expr{Kind: api.ExprCol, Slot: i} }

// item is the columns that an item tells.
func (x *binder) item(i api.Item) []api.OutCol {
	if !i.Star {
		return []api.OutCol{{Name: nameOf(i), Expr: x.expr(i.Expr)}}
	}
	names := x.scope.list
	if i.Table != "" {
		names = []string{i.Table}
	}
	if len(names) == 0 {
		refuse(api.ErrNoTable)
	}
	var l []api.OutCol
	for _, name := range names {
		s, there := x.scope.tables[name]
		if !there {
			refuse(api.ErrNoTable)
		}
		for k, c := range s.table.Columns {
			l = append(l, api.OutCol{Name: c.Name, Expr: api.Expr{Kind: api.ExprCol, Slot: s.from + k, Type: c.Type}})
		}
	}
	return l
}

func nameOf(i api.Item) string {
	if i.As != "" {
		return i.As
	}
	switch i.Expr.Kind {
	case api.ExprCol, api.ExprAgg:
		return i.Expr.Name
	case api.ExprLength:
		return "length"
	case api.ExprCoalesce:
		return "coalesce"
	case api.ExprCase:
		return "case"
	}
	return "?column?"
}

// order binds what a select is ordered by.
func (x *binder) order(out []api.OutCol, e api.Expr) api.Expr {
	if e.Kind == api.ExprValue && e.Value.Type == api.TypeInt {
		if e.Value.Int < 1 || e.Value.Int > int64(len(out)) {
			refuse(api.ErrOrderItem)
		}
		return itemRef(int(e.Value.Int) - 1)
	}
	if e.Kind == api.ExprCol && e.Table == "" {
		if i := namedItem(out, e.Name); i >= 0 {
			return itemRef(i)
		}
	}
	e = x.expr(e)
	if i := slices.IndexFunc(out, func(o api.OutCol) bool { return same(o.Expr, e) }); i >= 0 {
		return itemRef(i)
	}
	return e
}

// namedItem is the first item of a name; all others of it must be the same.
func namedItem(out []api.OutCol, name string) int {
	first := -1
	for i, o := range out {
		if o.Name != name {
			continue
		}
		if first < 0 {
			first = i
		} else if !same(out[first].Expr, o.Expr) {
			refuse(api.ErrTwoColumns)
		}
	}
	return first
}

// checkGroups refuses columns that have no one value in a group.
func checkGroups(b api.Bound) {
	var l []api.Expr
	for _, o := range b.Out {
		l = append(l, o.Expr)
	}
	l = append(l, b.Having)
	for _, o := range b.Order {
		if !isItem(o.Expr) {
			l = append(l, o.Expr)
		}
	}
	for _, e := range l {
		if hasLoose(e, b.Group) {
			refuse(api.ErrGrouping)
		}
	}
}

func hasLoose(e api.Expr, group []api.Expr) bool {
	if e.Kind == api.ExprAgg || slices.ContainsFunc(group, func(g api.Expr) bool { return same(g, e) }) {
		return false
	}
	return e.Kind == api.ExprCol || slices.ContainsFunc(e.Args, func(a api.Expr) bool { return hasLoose(a, group) })
}

// fit binds an expression for a column.
func (x *binder) fit(e api.Expr, c api.Column) api.Expr {
	e = x.expr(e)
	if !matches(e.Type, c.Type) {
		refuse(api.ErrTypes)
	}
	return e
}

func (x *binder) insert(s api.Stmt) api.Bound {
	t := x.table(s.Table)
	given := numbers(t, s.Columns)
	if len(s.Columns) == 0 {
		for i := range t.Columns {
			given = append(given, i)
		}
	}
	b := api.Bound{Table: t, Limit: -1}
	for _, row := range s.Rows {
		if len(row) != len(given) {
			refuse(api.ErrCount)
		}
		full := make([]api.Expr, len(t.Columns))
		for i, c := range t.Columns {
			full[i] = api.Expr{Kind: api.ExprValue, Value: c.Default, Type: c.Type}
		}
		for i, e := range row {
			full[given[i]] = x.fit(e, t.Columns[given[i]])
		}
		b.Rows = append(b.Rows, full)
	}
	return b
}

// changed binds an update or a delete.
func (x *binder) changed(s api.Stmt) api.Bound {
	t := x.table(s.Table)
	x.scope.add(t.Name, t)
	b := api.Bound{Table: t, Sources: []api.BoundSource{{Table: cloneTable(t)}}, Limit: -1}
	var set []int
	for _, one := range s.Sets {
		n := columnAt(t, one.Column)
		if n < 0 {
			refuse(api.ErrNoColumn)
		}
		if slices.Contains(set, n) {
			refuse(api.ErrTwiceColumn)
		}
		set = append(set, n)
		b.Sets = append(b.Sets, api.BoundSet{Column: n, Expr: x.fit(one.Expr, t.Columns[n])})
	}
	b.Where = x.condition(s.Where)
	return b
}
