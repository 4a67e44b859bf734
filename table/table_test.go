package table_test

import (
	"math/rand"
	"slices"
	"strings"
	"testing"

	"afflux/api"
	"afflux/schema"
	"afflux/table"
	"afflux/value"
)

// P9.1.
func TestNew(t *testing.T) {
	for _, s := range []api.Schema{good(), pairs()} {
		b := empty(t, s)
		if !schema.Same(b.Schema(), s) {
			t.Errorf("Schema: %v", b.Schema())
		}
		b.check(t)
	}
	for _, s := range wrongs() {
		if x, e := table.New(s); x != nil || e != api.ErrArg {
			t.Errorf("New(%v): %v, %d", s, x, e)
		}
	}
}

// P9.1: what was handed in or answered is memory of its own.
func TestSchemaIsCopied(t *testing.T) {
	s := good()
	b := filled(t, numbered(0, 3)...)
	b.Table, _ = table.New(s)
	b.Load(numbered(0, 3)...)
	spoil := func(s *api.Schema) {
		s.Cols[0].Kind = api.KText
		s.Cols[1].Name = "z"
		s.Indexes[0].Cols[0] = 2
		s.Indexes[1].Unique = true
		s.Limit = 1
	}
	spoil(&s)
	got := b.Schema()
	spoil(&got)
	if !schema.Same(b.Schema(), good()) {
		t.Errorf("Schema: %v", b.Schema())
	}
	b.insert(t, row(7, "t0", true))
	b.check(t)
}

// P9.1.
func TestKey(t *testing.T) {
	b := filled(t)
	for _, r := range append(numbered(-3, 3), row(1, strings.Repeat("x", 200), true)) {
		if k, e := b.Key(r...); k != value.Key(r[0]) || e != api.OK {
			t.Errorf("Key of %v: %x, %d", r, k, e)
		}
	}
	for _, r := range misfits() {
		if k, e := b.Key(r...); k != "" || e != api.ErrType {
			t.Errorf("Key of %v: %x, %d", r, k, e)
		}
	}
	p := empty(t, pairs())
	if k, e := p.Key(pair(1, "x", 2)...); k != value.Key(value.Text("x"), value.Int(1)) || e != api.OK {
		t.Errorf("Key: %x, %d", k, e)
	}
}

// strange are keys of no row of a table of the numbers 0 to 9.
func strange() []string {
	one := value.Key(value.Int(1))
	return []string{
		"", "\x00", "\x01", "\xff", one[:8], one + "\x00", one + one, one + value.Key(value.Text("t1")),
		value.Key(value.Int(-1)), value.Key(value.Int(10)), value.Key(value.Text("t1")), value.Key(value.Text("t1"), value.Int(1)), strings.Repeat("\x01", 1000),
	}
}

// P9.1: a row is got by its own key alone.
func TestGet(t *testing.T) {
	b := filled(t, numbered(0, 10)...)
	for _, k := range strange() {
		if r, ok := b.Get(k); len(r) != 0 || ok {
			t.Errorf("Get(%x): %v, %t", k, r, ok)
		}
	}
}

// P9.2: rows come in any order.
func TestInsert(t *testing.T) {
	rows := numbered(-5, 5)
	for seed := range int64(5) {
		rand.New(rand.NewSource(seed)).Shuffle(len(rows), func(i, j int) { rows[i], rows[j] = rows[j], rows[i] })
		b := empty(t, good())
		for _, r := range rows {
			b.insert(t, r)
			b.check(t)
		}
	}
}

// P9.2: with an error nothing has changed.
func TestInsertOfMisfits(t *testing.T) {
	for _, n := range []int{0, 5, 10} {
		b := filled(t, numbered(0, n)...)
		for _, r := range misfits() {
			expect(t, "Insert", r, b.Insert(r...), api.ErrType)
		}
		b.check(t)
	}
}

// P9.2: no two rows with the same by a unique index, the first one or another.
func TestInsertTwice(t *testing.T) {
	b := filled(t, row(1, "x", true), row(2, "y", false))
	for _, r := range [][]api.Value{row(1, "x", true), row(1, "z", false), row(2, "x", true)} {
		expect(t, "Insert", r, b.Insert(r...), api.ErrTwice)
	}
	b.check(t)
	b.insert(t, row(3, "x", true))
	b.check(t)

	p := empty(t, pairs())
	p.insert(t, pair(1, "x", 1))
	for _, r := range [][]api.Value{pair(1, "x", 2), pair(2, "x", 1), pair(1, "y", 1), pair(7, "z", 1)} {
		expect(t, "Insert", r, p.Insert(r...), api.ErrTwice)
	}
	p.check(t)
	p.insert(t, pair(1, "y", 2))
	p.insert(t, pair(2, "x", 3))
	p.check(t)
}

// P9.2: the document's example.
func TestExample(t *testing.T) {
	s := good()
	s.Indexes = []api.Index{{Cols: []int{0}, Unique: true}, {Cols: []int{1}, Unique: true}}
	b := empty(t, s)
	expect(t, "Insert", nil, b.Insert(row(1, "x", true)...), api.OK)
	expect(t, "Insert", nil, b.Insert(row(2, "x", true)...), api.ErrTwice)
	if b.Len() != 1 {
		t.Errorf("Len: %d", b.Len())
	}
}

// P9.2: as many rows as may be, of the least and the greatest limit, too; of
// several errors the first one.
func TestInsertAtLimit(t *testing.T) {
	for _, n := range []int{1, 2, 10, api.MaxRows} {
		s := good()
		s.Limit = n
		b := empty(t, s)
		for _, r := range numbered(0, n) {
			expect(t, "Insert", r, b.Insert(r...), api.OK)
		}
		b.want = numbered(0, n)
		b.check(t)
		expect(t, "Insert", nil, b.Insert(row(int64(n), "x", true)...), api.ErrLimit)
		expect(t, "Insert", nil, b.Insert(row(0, "x", true)...), api.ErrTwice)
		expect(t, "Insert", nil, b.Insert(value.Int(0)), api.ErrType)
		b.check(t)
		b.drop(t, b.key(0, b.want[n/2]))
		b.insert(t, row(int64(n), "x", true))
		expect(t, "Insert", nil, b.Insert(row(-1, "x", true)...), api.ErrLimit)
		b.check(t)
	}
}

// P9.2: a row instead of another one, or of itself, at the limit, too.
func TestUpdate(t *testing.T) {
	b := filled(t, numbered(0, 10)...)
	for _, c := range []struct {
		key int64
		row []api.Value
	}{
		{3, row(3, "t0", false)}, {3, row(3, "t0", true)}, {3, row(3, "z", true)}, {3, row(30, "z", true)}, {30, row(-5, "t1", false)},
		{0, row(99, "", true)}, {99, row(0, "t0", true)}, {9, row(3, "\x00", false)},
	} {
		b.update(t, value.Key(value.Int(c.key)), c.row)
		if _, ok := b.Get(value.Key(c.row[0])); !ok {
			t.Errorf("%v isn't there", c.row)
		}
		b.check(t)
	}
}

// P9.2: of several errors the first one; with one nothing has changed.
func TestUpdateErrors(t *testing.T) {
	b := filled(t, numbered(0, 10)...)
	for _, k := range strange() {
		for _, r := range [][]api.Value{nil, row(1, "t1", false), row(50, "x", true), misfits()[3]} {
			expect(t, "Update", r, b.Update(k, r...), api.ErrNone)
		}
	}
	for _, r := range misfits() {
		expect(t, "Update", r, b.Update(value.Key(value.Int(1)), r...), api.ErrType)
	}
	for i := range int64(10) {
		other := row((i+1)%10, "new", true)
		expect(t, "Update", other, b.Update(value.Key(value.Int(i)), other...), api.ErrTwice)
	}
	b.check(t)

	p := empty(t, pairs())
	p.insert(t, pair(1, "x", 1))
	p.insert(t, pair(2, "x", 2))
	first := p.key(0, pair(1, "x", 1))
	for _, r := range [][]api.Value{pair(2, "x", 1), pair(2, "x", 9), pair(1, "x", 2), pair(9, "y", 2), pair(2, "x", 2)} {
		expect(t, "Update", r, p.Update(first, r...), api.ErrTwice)
	}
	p.check(t)
	p.update(t, first, pair(5, "x", 1))
	p.check(t)
	p.update(t, p.key(0, pair(5, "x", 1)), pair(5, "x", 3))
	p.check(t)
}

// P9.2: what was updated has its old keys no more.
func TestUpdateFrees(t *testing.T) {
	p := empty(t, pairs())
	p.insert(t, pair(1, "x", 1))
	p.update(t, p.key(0, pair(1, "x", 1)), pair(2, "y", 2))
	p.drop(t, p.key(0, pair(1, "x", 1)))
	p.insert(t, pair(1, "x", 1))
	p.check(t)
}

// P9.2.
func TestDelete(t *testing.T) {
	b := filled(t, numbered(0, 10)...)
	for _, k := range strange() {
		expect(t, "Delete", nil, b.Delete(k), api.ErrNone)
	}
	b.check(t)
	for _, r := range [][]api.Value{b.want[4], b.want[0], b.want[9], b.want[5]} {
		k := b.key(0, r)
		b.drop(t, k)
		b.drop(t, k)
		if got, ok := b.Get(k); len(got) != 0 || ok {
			t.Errorf("Get: %v, %t", got, ok)
		}
		b.check(t)
	}
	for len(b.want) > 0 {
		b.drop(t, b.key(0, b.want[0]))
		b.check(t)
	}
	b.insert(t, row(4, "t1", true))
	b.check(t)
}

// P9.5, P9.2: however rows come, change and go, all indexes tell the same ones.
func TestComeAndGo(t *testing.T) {
	for seed := range int64(12) {
		r := rand.New(rand.NewSource(seed))
		s := []api.Schema{good(), pairs()}[seed%2]
		s.Limit = 1 + r.Intn(30)
		b := empty(t, s)
		for i := range 600 {
			p, q := someRow(s, r), someRow(s, r)
			switch n := r.Intn(10); {
			case n < 4:
				b.insert(t, p)
			case n < 8:
				b.update(t, b.key(0, p), q)
			default:
				b.drop(t, b.key(0, p))
			}
			if i%10 == 0 {
				b.check(t)
			}
		}
		b.check(t)
	}
}

// someRow fits, and is often such as another one.
func someRow(s api.Schema, r *rand.Rand) []api.Value {
	n, text := int64(r.Intn(8)-4), []string{"", "a", "a\x00", "b"}[r.Intn(4)]
	if s.Cols[2].Kind == api.KBool {
		return row(n, text, r.Intn(2) == 0)
	}
	return pair(n, text, int64(r.Intn(40)))
}

// P9.2: tables have nothing in common.
func TestTwoTables(t *testing.T) {
	a, b := filled(t, numbered(0, 5)...), filled(t, numbered(3, 8)...)
	a.drop(t, a.key(0, row(4, "", true)))
	b.update(t, b.key(0, row(3, "", true)), row(9, "", true))
	b.insert(t, row(0, "", true))
	a.check(t)
	b.check(t)
}

// What is handed in is neither changed nor kept, its spare room neither.
func TestHandedInStays(t *testing.T) {
	b := filled(t)
	room := append(row(1, "x", true), value.Int(7))
	r := room[:3]
	key := value.Key(r[0])
	spoil := func() {
		if !slices.Equal(room, append(row(1, "x", true), value.Int(7))) {
			t.Errorf("changed: %v", room)
		}
		copy(room, row(2, "z", false))
		b.check(t)
		copy(room, row(1, "x", true))
	}
	b.insert(t, r)
	spoil()
	b.update(t, key, r)
	spoil()
	b.Load(r)
	spoil()
	b.Key(r...)
	spoil()
	parts := []int{3, 1, 3, 1}[:3]
	b.Rows(parts...)
	b.In(parts...)
	b.First(0, parts...)
	b.Next(0, "", parts...)
	if !slices.Equal(parts[:4], []int{3, 1, 3, 1}) {
		t.Errorf("changed: %v", parts[:4])
	}
}

// What is answered is new memory.
func TestAnswersAreNew(t *testing.T) {
	b := filled(t, numbered(0, 5)...)
	spoil := func(rows ...[]api.Value) {
		for _, r := range rows {
			clear(r)
			clear(append(r, value.Int(1), value.Int(2)))
		}
		b.check(t)
	}
	for i := range good().Indexes {
		spoil(b.Scan(i, "", "", 100)...)
		_, r, _ := b.First(i)
		spoil(r)
		_, r, _ = b.Next(i, "", 1)
		spoil(r)
	}
	spoil(b.Rows()...)
	spoil(b.Rows(1)...)
	r, _ := b.Get(value.Key(value.Int(3)))
	spoil(r)
}
