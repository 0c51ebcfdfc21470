package scan

// Numbers of so many digits cannot wrap round.
const maxDigits = 12

// kind is what a byte of a text is good for.
type kind int

const (
	other kind = iota
	space
	minus
	digit
	hash
	feed
	end // there is no byte any more
)

func kindOf(b byte) kind {
	switch b {
	case ' ':
		return space
	case '-':
		return minus
	case '#':
		return hash
	case '\n':
		return feed
	}
	if '0' <= b && b <= '9' {
		return digit
	}
	return other
}

// reader goes over a text, byte by byte, and gathers the numbers of its lines.
type reader struct {
	text  []byte
	at    int // how many bytes it has gone over
	lines [][]int
	line  []int

	// The number that it is at.
	size, digits int
	negative     bool
}

// next goes over one more byte, and tells its kind.
func (r *reader) next() kind {
	if r.at == len(r.text) {
		return end
	}
	r.at++
	return kindOf(r.text[r.at-1])
}

// takeDigit puts the digit that was gone over behind those of the number; false: these are too many.
func (r *reader) takeDigit() bool {
	if r.digits == maxDigits {
		return false
	}
	r.digits++
	r.size = 10*r.size + int(r.text[r.at-1]-'0')
	return true
}

func (r *reader) endNumber() {
	n := r.size
	if r.negative {
		n = -n
	}
	r.line = append(r.line, n)
	r.size, r.digits, r.negative = 0, 0, false
}

func (r *reader) endLine() {
	if len(r.line) > 0 {
		r.lines = append(r.lines, r.line)
	}
	// Not r.line[:0]: the lines of an answer share no memory.
	r.line = nil
}
