package seal

// nibbles is what four steps of the register make of its four lowest bits. (A
// table for all eight bits of a byte would be longer than a table may be.)
var nibbles = [16]uint64{
	0x0000000000000000, 0x7d9ba13851336649, 0xfb374270a266cc92, 0x86ace348f355aadb,
	0x64b62bcaebc387a1, 0x192d8af2baf0e1e8, 0x9f8169ba49a54b33, 0xe21ac88218962d7a,
	0xc96c5795d7870f42, 0xb4f7f6ad86b4690b, 0x325b15e575e1c3d0, 0x4fc0b4dd24d2a599,
	0xadda7c5f3c4488e3, 0xd041dd676d77eeaa, 0x56ed3e2f9e224471, 0x2b769f17cf112238,
}

// Sum is the sum of texts. It keeps the register with all bits turned, so that
// its zero value is a register that begins with all ones.
type Sum struct{ turned uint64 }

// Add adds texts.
func (s *Sum) Add(l ...string) *Sum {
	if s == nil {
		return nil
	}
	for _, t := range l {
		s.turned = ^through(^s.turned, t)
	}
	return s
}

// Value is the sum of all that was added.
func (s *Sum) Value() uint64 {
	if s == nil {
		return 0
	}
	return s.turned
}

// Of is the sum of texts.
func Of(l ...string) uint64 {
	var s Sum
	return s.Add(l...).Value()
}

// through is the register behind a text's bytes.
func through(register uint64, t string) uint64 {
	for i := range len(t) {
		register = step(register ^ uint64(t[i]))
		register = step(register)
	}
	return register
}

// step shifts the register down by four.
func step(register uint64) uint64 {
	return nibbles[register&0xf] ^ register>>4
}
