package seal

import (
	"winnower/api"
	"winnower/column"
)

// table has the values of all rows of some columns. As column.At checks a whole column for
// one value, many rows are better read from a table.
type table struct {
	columns [][]api.Value
	// height is the number of rows that have a value in each column.
	height int
}

// Row returns the values of row i of x in all columns, or none if there is no such row or a
// column has no value for it.
func Row(x api.Segment, i int) []api.Value {
	if !within(i, 0, len(x.Offsets)-1) {
		return nil
	}
	row := make([]api.Value, len(x.Cols))
	for k, c := range x.Cols {
		v, there := column.At(c, i)
		if !there {
			return nil
		}
		row[k] = v
	}
	return row
}

// Rows returns what Row returns for each row of x.
func Rows(x api.Segment) [][]api.Value {
	// The method value has the table in it, which is read only once.
	return produce(len(x.Offsets), read(x).row)
}

// produce returns what row returns for each number from 0 to count - 1.
func produce(count int, row func(i int) []api.Value) [][]api.Value {
	rows := make([][]api.Value, count)
	for i := range rows {
		rows[i] = row(i)
	}
	return rows
}

// read returns the table of the rows of x.
func read(x api.Segment) table {
	t := table{height: len(x.Offsets)}
	for _, c := range x.Cols {
		values := column.Values(c)
		t.columns = append(t.columns, values)
		t.height = min(t.height, len(values))
	}
	return t
}

// row returns row i of t, which is not negative, or none if a column has no value for it.
func (t table) row(i int) []api.Value {
	if i >= t.height {
		return nil
	}
	row := make([]api.Value, len(t.columns))
	for k, values := range t.columns {
		row[k] = values[i]
	}
	return row
}
