package table

import (
	"cmp"
	"iter"
	"slices"
)

// Rows tells all rows, in order.
func (t *Table[K, V]) Rows() []Row[K, V] {
	rows := make([]Row[K, V], 0, t.Len())
	for k, v := range t.Each() {
		rows = append(rows, Row[K, V]{Key: k, Value: v})
	}
	return rows
}

// Each gives all rows, in order.
func (t *Table[K, V]) Each() iter.Seq2[K, V] {
	return func(yield func(K, V) bool) {
		give(t.all(), yield)
	}
}

// From gives the rows whose keys aren't below k, in order.
func (t *Table[K, V]) From(k K) iter.Seq2[K, V] {
	return func(yield func(K, V) bool) {
		at, _ := t.find(k)
		give(t.all()[at:], yield)
	}
}

// At tells the i-th row, from 0 on, and whether there is one.
func (t *Table[K, V]) At(i int) (Row[K, V], bool) {
	if i < 0 || i >= t.Len() {
		return Row[K, V]{}, false
	}
	return t.rows[i], true
}

// Copy tells a table of its own with the same rows.
func (t *Table[K, V]) Copy() *Table[K, V] {
	return &Table[K, V]{rows: t.Rows()}
}

// Merge tells the table of the keys of either: of those of both what both
// answers, a's value being asked first. An absent both, or one that panics,
// answers the zero value.
func Merge[K cmp.Ordered, V any](a, b *Table[K, V], both func(V, V) V) *Table[K, V] {
	return gather(append(a.Rows(), b.Rows()...), func(first, second V) (answer V) {
		if both == nil {
			return answer
		}
		defer func() { _ = recover() }()
		return both(first, second)
	})
}

// gather tells the table of rows, which it sorts: of two of one key join
// tells the value, the one that stands ahead being asked first.
func gather[K cmp.Ordered, V any](rows []Row[K, V], join func(V, V) V) *Table[K, V] {
	slices.SortStableFunc(rows, func(a, b Row[K, V]) int {
		return cmp.Compare(a.Key, b.Key)
	})
	t := &Table[K, V]{}
	for _, row := range rows {
		last := len(t.rows) - 1
		// Not by ==, of which a float that is no number isn't the same key.
		if last >= 0 && cmp.Compare(t.rows[last].Key, row.Key) == 0 {
			row.Value = join(t.rows[last].Value, row.Value)
			t.rows[last] = row
			continue
		}
		t.rows = append(t.rows, row)
	}
	return t
}

// give gives the rows to yield, till it answers false.
func give[K cmp.Ordered, V any](rows []Row[K, V], yield func(K, V) bool) {
	for _, row := range rows {
		if !yield(row.Key, row.Value) {
			return
		}
	}
}
