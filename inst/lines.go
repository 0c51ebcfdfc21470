package inst

import "haulier/api"

// The lines of an instance's text: head is the first one, row that of a stop.
type (
	head [3]int
	row  [6]int
)

func headOf(x api.Instance) head { return head{x.Pairs, x.Cars, x.Room} }

func rowOf(s api.Stop) row { return row{s.X, s.Y, s.Demand, s.Ready, s.Due, s.Service} }

func (r row) stop() api.Stop {
	return api.Stop{X: r[0], Y: r[1], Demand: r[2], Ready: r[3], Due: r[4], Service: r[5]}
}

// wellFormed tells whether there is a head, and nothing but rows behind it.
func wellFormed(lines [][]int) bool {
	if len(lines) == 0 || len(lines[0]) != len(head{}) {
		return false
	}
	for _, line := range lines[1:] {
		if len(line) != len(row{}) {
			return false
		}
	}
	return true
}

// fromLines is only for lines that are wellFormed: to make an array of a shorter list panics.
func fromLines(lines [][]int) api.Instance {
	first := head(lines[0])
	x := api.Instance{Pairs: first[0], Cars: first[1], Room: first[2]}
	for _, line := range lines[1:] {
		x.Stops = append(x.Stops, row(line).stop())
	}
	return x
}

func linesOf(x api.Instance) [][]int {
	first := headOf(x)
	lines := [][]int{first[:]}
	for _, s := range x.Stops {
		r := rowOf(s)
		lines = append(lines, r[:])
	}
	return lines
}
