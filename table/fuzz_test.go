package table_test

import (
	"maps"
	"math/rand"
	"slices"
	"strconv"
	"testing"

	"clevis/table"
)

// plain is what a table must be: a map, told in the order of its keys.
type plain map[int]string

func (p plain) rows() []label {
	var l []label
	for _, k := range slices.Sorted(maps.Keys(p)) {
		l = append(l, label{Key: k, Value: p[k]})
	}
	return l
}

// step does the same to a table and to what it must be.
func step(t *testing.T, x *table.Table[int, string], p plain, what byte, k int, v string) {
	t.Helper()
	was, has := p[k]
	switch what % 4 {
	case 0:
		if x.Put(k, v) == has {
			t.Errorf("Put(%d): %t", k, has)
		}
		p[k] = v
	case 1:
		if x.Drop(k) != has {
			t.Errorf("Drop(%d): %t", k, !has)
		}
		delete(p, k)
	case 2:
		if a := change(x, k, was+v, true); a != (asked{was, has, 1}) {
			t.Errorf("Change(%d): asked with %v", k, a)
		}
		p[k] = was + v
	case 3:
		if a := change(x, k, v, false); a != (asked{was, has, 1}) {
			t.Errorf("Change(%d): asked with %v", k, a)
		}
		delete(p, k)
	}
}

// play does one step for every two bytes, and holds all that is told against what must be.
func play(t *testing.T, b []byte) {
	var x table.Table[int, string]
	p := plain{}
	var handed []label
	for i := 0; i+1 < len(b); i += 2 {
		k, v := int(int8(b[i+1]))/4, strconv.Itoa(i)
		handed = append(handed, label{Key: k, Value: v})
		copied, before := x.Copy(), p.rows()
		step(t, &x, p, b[i], k, v)
		holds(t, "a step", &x, p.rows())
		holds(t, "the copy from ahead of it", copied, before)
		want := slices.DeleteFunc(p.rows(), func(r label) bool { return r.Key < k })
		if l := given(&x, k, -1); !slices.Equal(l, want) {
			t.Errorf("From(%d): %v; want %v", k, l, want)
		}
	}
	of := plain{}
	for _, r := range handed {
		of[r.Key] = r.Value
	}
	y := table.Of(handed...)
	holds(t, "Of", y, of.rows())
	merged := maps.Clone(p)
	for k, v := range of {
		if was, has := p[k]; has {
			v = was + "-" + v
		}
		merged[k] = v
	}
	holds(t, "Merge", table.Merge(&x, y, func(a, b string) string { return a + "-" + b }), merged.rows())
}

// P3.1, P3.2, P2: many steps in a row; the seed is fixed, so that they are the same each time.
func TestSteps(t *testing.T) {
	chance := rand.New(rand.NewSource(1))
	for range 200 {
		b := make([]byte, chance.Intn(300))
		chance.Read(b)
		play(t, b)
	}
}

// P1, P3.1, P3.2: whatever the steps are, each call ends, and tells what it must.
func FuzzSteps(f *testing.F) {
	f.Add([]byte{})
	f.Add([]byte{0, 4, 0, 8, 0, 4, 1, 4, 1, 4})
	f.Add([]byte{2, 255, 2, 255, 3, 255, 3, 255, 0, 128, 0, 127})
	f.Fuzz(func(t *testing.T, b []byte) {
		play(t, b[:min(len(b), 400)])
	})
}
