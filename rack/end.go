package rack

import "mailcoach/ring"

// An end of a row: what takes the ID there, and what lays one there.
type end struct {
	take func() (int, bool)
	put  func(int)
}

// lay puts an ID into a row, so that so many are ahead of it.
func lay(row *ring.Ring, ahead, id int) {
	near, between := nearer(row, ahead, row.Len()-ahead)
	taken := near.takeOff(between)
	near.put(id)
	near.layBack(taken)
}

// lift takes the ID out of a row that so many are ahead of.
func lift(row *ring.Ring, ahead int) {
	near, between := nearer(row, ahead, row.Len()-ahead-1)
	taken := near.takeOff(between)
	near.take()
	near.layBack(taken)
}

// nearer answers the end of a row that is nearer to a place with so many ahead of it
// and so many behind it, and how many that are.
func nearer(row *ring.Ring, ahead, behind int) (end, int) {
	if ahead < behind {
		return end{row.Shift, row.Unshift}, ahead
	}
	return end{row.Pop, row.Push}, behind
}

// takeOff takes so many IDs from the end and answers them, in the order in which they
// were taken.
func (e end) takeOff(n int) []int {
	taken := make([]int, n)
	at := 0
step:
	if at == n {
		return taken
	}
	taken[at], _ = e.take()
	at++
	goto step
}

// layBack lays at the end what was taken from it, the last one first.
func (e end) layBack(taken []int) {
	at := len(taken)
step:
	if at > 0 {
		at--
		e.put(taken[at])
		goto step
	}
}
