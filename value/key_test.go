package value_test

import (
	"slices"
	"strings"
	"testing"

	"afflux/api"
	"afflux/value"
)

// someRows are right rows: none, and those of one to three right values.
func someRows() [][]api.Value {
	out := [][]api.Value{nil}
	all := rights()
	few := []api.Value{value.Int(low), value.Int(1), value.Text(""), value.Text("\x00"), value.Text("a"), value.Bool(true)}
	for _, a := range all {
		out = append(out, []api.Value{a})
		for _, b := range few {
			out = append(out, []api.Value{a, b}, []api.Value{b, a}, []api.Value{b, a, b})
		}
	}
	return out
}

// P2.2: keys, byte by byte.
func TestKey(t *testing.T) {
	long := strings.Repeat("z", 200)
	for _, c := range []struct {
		row []api.Value
		key string
	}{
		{nil, ""},
		{[]api.Value{value.Int(0)}, "\x01\x80\x00\x00\x00\x00\x00\x00\x00"},
		{[]api.Value{value.Int(-1)}, "\x01\x7f\xff\xff\xff\xff\xff\xff\xff"},
		{[]api.Value{value.Int(low)}, "\x01\x00\x00\x00\x00\x00\x00\x00\x00"},
		{[]api.Value{value.Int(high)}, "\x01\xff\xff\xff\xff\xff\xff\xff\xff"},
		{[]api.Value{value.Int(0x0102030405060708)}, "\x01\x81\x02\x03\x04\x05\x06\x07\x08"},
		{[]api.Value{value.Text("")}, "\x02\x00\x01"},
		{[]api.Value{value.Text("a\x00\xffb\x00")}, "\x02a\x00\xff\xffb\x00\xff\x00\x01"},
		{[]api.Value{value.Text(long)}, "\x02" + long + "\x00\x01"},
		{[]api.Value{value.Bool(false)}, "\x03\x00"},
		{[]api.Value{value.Bool(true)}, "\x03\x01"},
		{[]api.Value{value.Int(1), value.Text("a")}, "\x01\x80\x00\x00\x00\x00\x00\x00\x01\x02a\x00\x01"},
		{[]api.Value{value.Bool(true), value.Text(""), value.Bool(false)}, "\x03\x01\x02\x00\x01\x03\x00"},
	} {
		if got := value.Key(c.row...); got != c.key {
			t.Errorf("Key(%v): %x; want %x", c.row, got, c.key)
		}
		if row, ok := value.Unkey(c.key); !ok || !slices.Equal(row, c.row) {
			t.Errorf("Unkey(%x): %v, %t", c.key, row, ok)
		}
	}
}

// P2.2: a value that isn't right has no key, nor has a row with one.
func TestKeyOfWrongs(t *testing.T) {
	for _, v := range wrongs() {
		if k := value.Key(v) + value.Key(value.Int(1), v) + value.Key(v, value.Int(1)); k != "" {
			t.Errorf("Key of %v: %x", v, k)
		}
	}
}

// P2.2: there and back.
func TestUnkey(t *testing.T) {
	for _, row := range someRows() {
		got, ok := value.Unkey(value.Key(row...))
		if !ok || !slices.Equal(got, row) {
			t.Errorf("Unkey(Key(%v)): %v, %t", row, got, ok)
		}
	}
}

// P2.2: what is no row's key.
func TestUnkeyOfNone(t *testing.T) {
	good := value.Key(value.Int(5))
	for _, s := range []string{
		"\x00", "\x04", "\xff", "\x00\x01", "\x04\x01",
		"\x01", good[:8], good + "\x00", good + "\x01", good + good[:5],
		"\x02", "\x02a", "\x02a\x00", "\x02a\x00\x00", "\x02a\x00\x02", "\x02a\x00\xfe", "\x02a\x00\xff", "\x02a\x00\xff\x00", "\x02a\x00\x01\x00", "\x02a\x01",
		"\x02" + strings.Repeat("a", 201) + "\x00\x01",
		"\x02" + strings.Repeat("\x00\xff", 201) + "\x00\x01",
		"\x03", "\x03\x02", "\x03\xff", "\x03\x01\x01", good + "\x03\x02",
	} {
		if row, ok := value.Unkey(s); ok || len(row) != 0 {
			t.Errorf("Unkey(%x): %v, %t", s, row, ok)
		}
	}
}

// P2.2: whatever is turned or cut off, a row is told of its own key alone.
func TestUnkeyOfSpoilt(t *testing.T) {
	for _, row := range someRows() {
		key := value.Key(row...)
		for i := range len(key) {
			for _, b := range []byte{0, 1, 2, 3, 4, 0x7f, 0xfe, 0xff} {
				checkUnkey(t, key[:i]+string([]byte{b})+key[i+1:])
			}
			checkUnkey(t, key[:i])
			checkUnkey(t, key[i:])
		}
	}
}

func checkUnkey(t *testing.T, s string) {
	t.Helper()
	row, ok := value.Unkey(s)
	if ok && (value.Key(row...) != s || !value.Right(row...)) || !ok && len(row) != 0 {
		t.Errorf("Unkey(%x): %v, %t", s, row, ok)
	}
}

// P2.5.
func TestKeysInOrder(t *testing.T) {
	rows := someRows()
	keys := make([]string, len(rows))
	for i, r := range rows {
		keys[i] = value.Key(r...)
	}
	for i, a := range rows {
		for j, b := range rows {
			if got := strings.Compare(keys[i], keys[j]); got != value.Rows(a, b) {
				t.Errorf("the keys of %v and %v: %d", a, b, got)
			}
			begins := len(a) <= len(b) && slices.Equal(a, b[:len(a)])
			if strings.HasPrefix(keys[j], keys[i]) != begins {
				t.Errorf("the key of %v begins that of %v: %t", a, b, !begins)
			}
		}
	}
}

// What is answered is new memory, and what is handed in stays.
func TestUnkeyIsNew(t *testing.T) {
	key := value.Key(value.Int(1), value.Text("a"))
	first, _ := value.Unkey(key)
	first[0] = value.Int(9)
	if second, ok := value.Unkey(key); !ok || second[0] != value.Int(1) {
		t.Errorf("Unkey: %v", second)
	}
	row := make([]api.Value, 1, 4)
	row[0] = value.Text("a\x00")
	value.Key(row...)
	value.Line(row...)
	value.Right(row...)
	if spare := row[:4]; row[0] != value.Text("a\x00") || spare[1] != (api.Value{}) {
		t.Errorf("the row was changed: %v", spare)
	}
}
