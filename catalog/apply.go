package catalog

import (
	"slices"

	"cormorant/api"
	"cormorant/sqlparse"
)

// Apply makes or drops a table or an index.
func Apply(c api.Catalog, s api.Stmt) (out api.Catalog, e api.Errno) {
	if s.Kind < api.StmtCreateTable || s.Kind > api.StmtDropIndex || !Right(c) {
		return api.Catalog{}, api.ErrArg
	}
	if e := sqlparse.Right(s); e != api.OK {
		return api.Catalog{}, e
	}
	defer func() {
		if r, ok := recover().(refusal); ok {
			out, e = api.Catalog{}, r.code
		}
	}()
	c = cloneCatalog(c)
	switch s.Kind {
	case api.StmtCreateTable:
		createTable(&c, s)
	case api.StmtCreateIndex:
		createIndex(&c, s.Index)
	case api.StmtDropTable:
		i := needTable(c, s.Table)
		c.Tables = slices.Delete(c.Tables, i, i+1)
	case api.StmtDropIndex:
		dropIndex(&c, s.Index.Name)
	}
	return c, api.OK
}

func needTable(c api.Catalog, name string) int {
	i := tableAt(c, name)
	if i < 0 {
		refuse(api.ErrNoTable)
	}
	return i
}

func hasIndex(t api.Table, name string) int {
	return slices.IndexFunc(t.Indexes, func(x api.Index) bool { return x.Name == name })
}

// freshIndex refuses a name that an index has.
func freshIndex(c api.Catalog, name string) {
	for _, t := range c.Tables {
		if hasIndex(t, name) >= 0 {
			refuse(api.ErrTwiceIndex)
		}
	}
}

func createTable(c *api.Catalog, s api.Stmt) {
	if tableAt(*c, s.Table) >= 0 {
		refuse(api.ErrTwiceTable)
	}
	if len(c.Tables) >= api.MaxSqlTables || c.Next >= mostNext || len(s.Cols) > api.MaxSqlColumns {
		refuse(api.ErrCatalogFull)
	}
	t := api.Table{Id: c.Next, Name: s.Table}
	for _, x := range s.Cols {
		addColumn(&t, x)
	}
	t.Key = keyOf(t, s)
	for _, n := range t.Key {
		t.Columns[n].NotNull = true
	}
	addUnique(c, &t, s.Cols)
	if len(tableBytes(t)) > api.MaxValue {
		refuse(api.ErrCatalogFull)
	}
	c.Tables = append(c.Tables, t)
	c.Next++
}

func columnAt(t api.Table, name string) int {
	return slices.IndexFunc(t.Columns, func(c api.Column) bool { return c.Name == name })
}

func addColumn(t *api.Table, x api.ColumnDef) {
	if columnAt(*t, x.Name) >= 0 {
		refuse(api.ErrTwiceColumn)
	}
	c := api.Column{Name: x.Name, Type: x.Type, NotNull: x.NotNull, Default: api.Value{Type: x.Type, Null: true}}
	if x.Default.Kind != 0 {
		c.Default = literal(x.Default)
		if c.Default.Type == api.TypeNone {
			c.Default.Type = x.Type
		}
		if c.Default.Type != x.Type {
			refuse(api.ErrTypes)
		}
	}
	t.Columns = append(t.Columns, c)
}

// literal is the value of one, which may have a sign.
func literal(x api.Expr) api.Value {
	if x.Kind == api.ExprNeg {
		v := x.Args[0].Value
		v.Int = -v.Int
		return v
	}
	return x.Value
}

// keyOf is the numbers of the key's columns.
func keyOf(t api.Table, s api.Stmt) []int {
	var key []int
	for i, x := range s.Cols {
		if x.Key {
			key = append(key, i)
		}
	}
	if len(s.Key) == 0 && len(key) == 1 {
		return key
	}
	if len(s.Key) == 0 || len(key) > 0 {
		refuse(api.ErrNoKey)
	}
	return numbers(t, s.Key)
}

// numbers are those of columns, none twice.
func numbers(t api.Table, names []string) []int {
	var l []int
	for _, name := range names {
		n := columnAt(t, name)
		if n < 0 {
			refuse(api.ErrNoColumn)
		}
		if slices.Contains(l, n) {
			refuse(api.ErrTwiceColumn)
		}
		l = append(l, n)
	}
	return l
}

// addUnique adds an index for each column that is unique.
func addUnique(c *api.Catalog, t *api.Table, cols []api.ColumnDef) {
	var l []int
	for i, x := range cols {
		if x.Unique {
			l = append(l, i)
		}
	}
	if len(l) > api.MaxSqlIndexes {
		refuse(api.ErrCatalogFull)
	}
	for i, n := range l {
		name := t.Name + "_" + cols[n].Name + "_key"
		name = name[:min(len(name), api.MaxName)]
		freshIndex(*c, name)
		if hasIndex(*t, name) >= 0 {
			refuse(api.ErrTwiceIndex)
		}
		t.Indexes = append(t.Indexes, api.Index{Id: firstIndex + i, Name: name, Columns: []int{n}, Unique: true})
	}
}

func createIndex(c *api.Catalog, x api.IndexDef) {
	t := &c.Tables[needTable(*c, x.Table)]
	freshIndex(*c, x.Name)
	if len(t.Indexes) >= api.MaxSqlIndexes {
		refuse(api.ErrCatalogFull)
	}
	id := firstIndex
	if n := len(t.Indexes); n > 0 {
		id = t.Indexes[n-1].Id + 1
	}
	t.Indexes = append(t.Indexes, api.Index{Id: id, Name: x.Name, Columns: numbers(*t, x.Columns), Unique: x.Unique})
	if id > mostNext || len(tableBytes(*t)) > api.MaxValue {
		refuse(api.ErrCatalogFull)
	}
}

func dropIndex(c *api.Catalog, name string) {
	for i := range c.Tables {
		t := &c.Tables[i]
		if k := hasIndex(*t, name); k >= 0 {
			t.Indexes = slices.Delete(t.Indexes, k, k+1)
			return
		}
	}
	refuse(api.ErrNoIndex)
}
