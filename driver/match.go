package driver

import "bytes"

// match tells whether what was written is what was fed. It keeps what was fed and is not written yet, up to the first byte
// that is another one.
//
// What was written never has more bytes than what was fed, up to Close, if it begins alike: line ends and blanks are laid
// together with the token behind them, and that has been fed.
type match struct {
	other bool
	fed   []byte
	seen  int // how many of these bytes have been written
}

// feed takes what is fed.
func (m *match) feed(s string) {
	if !m.other {
		m.fed = append(m.fed, s...)
	}
}

// write takes what is written.
func (m *match) write(s string) {
	rest := m.fed[m.seen:]
	if len(s) > len(rest) || string(rest[:len(s)]) != s {
		*m = match{other: true}
	}
	if !m.other {
		m.seen += len(s)
	}
}

// tidy lets go of what has been written, where that is the greater part: so each byte is moved but once or so.
func (m *match) tidy() {
	if rest := m.fed[m.seen:]; m.seen >= len(rest) {
		m.fed, m.seen = bytes.Clone(rest), 0
	}
}

// same tells whether all that was fed was written, and nothing else.
func (m *match) same() bool { return !m.other && m.seen == len(m.fed) }
