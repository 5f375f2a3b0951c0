package pgwire

import "cormorant/api"

// State is an error's SQLSTATE, Words what it says.
func State(e api.Errno) string {
	state, _ := report(e)
	return state
}

func Words(e api.Errno) string {
	_, words := report(e)
	return words
}

// report is how an error is told to a client.
func report(e api.Errno) (string, string) {
	switch e {
	case api.ErrSqlLong, api.ErrSqlNest, api.ErrSqlParts:
		return "54001", "statement is too large"
	case api.ErrSqlRune, api.ErrSqlNumber, api.ErrSqlQuote, api.ErrSqlSyntax, api.ErrSqlForm, api.ErrCount:
		return "42601", "syntax error"
	case api.ErrNoTable:
		return "42P01", "no such table"
	case api.ErrTwiceTable, api.ErrTwiceIndex:
		return "42P07", "it is there already"
	case api.ErrNoColumn:
		return "42703", "no such column"
	case api.ErrTwiceColumn:
		return "42701", "the column is named twice"
	case api.ErrTwoColumns:
		return "42702", "the column is ambiguous"
	case api.ErrTwiceSource:
		return "42712", "the table is named twice"
	case api.ErrNoIndex:
		return "42704", "no such index"
	case api.ErrTypes:
		return "42804", "types do not match"
	case api.ErrGrouping:
		return "42803", "it must stand in GROUP BY or in an aggregate"
	case api.ErrOrderItem:
		return "42P10", "it must stand in the select list"
	case api.ErrNoKey:
		return "42P16", "one primary key is needed"
	}
	return reportRun(e)
}

// reportRun is how an error is told that shows when a statement is done.
func reportRun(e api.Errno) (string, string) {
	switch e {
	case api.ErrCatalogFull, api.ErrRowLong, api.ErrExecMany:
		return "54000", "a limit is exceeded"
	case api.ErrOutOfRange:
		return "22003", "number out of range"
	case api.ErrDivision:
		return "22012", "division by zero"
	case api.ErrTextLong:
		return "22001", "text is too long"
	case api.ErrExecUnique:
		return "23505", "the key is there already"
	case api.ErrExecNull:
		return "23502", "null where none may be"
	case api.ErrDiskFull, api.ErrDiskMany:
		return "53100", "the disk is full"
	case api.ErrTxnAgain, api.ErrReplicaAgain:
		return "40001", "begin the transaction again"
	case api.ErrClockEnd:
		return "53000", "out of timestamps"
	case api.ErrWireForm, api.ErrWireLong, api.ErrWireVersion:
		return "08P01", "protocol violation"
	case api.ErrExecDamage, api.ErrCatalogForm:
		return "XX001", "stored rows are damaged"
	}
	return "XX000", "internal error"
}
