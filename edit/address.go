package edit

import "adze/program"

// means tells whether a command's addresses mean the line, and opens or closes the command.
func (e *editor) means(at int) bool {
	addresses := e.commands[at].Addresses
	switch len(addresses) {
	case 0:
		return true
	case 1:
		return e.isMeant(&addresses[0])
	}
	if e.open[at] {
		e.open[at] = !e.isClosed(&addresses[1])
		return true
	}
	if !e.isMeant(&addresses[0]) {
		return false
	}
	e.open[at] = !e.isPassed(&addresses[1])
	return true
}

func (e *editor) isMeant(a *program.Address) bool {
	switch a.Kind {
	case program.Number:
		return e.line == a.Number
	case program.Last:
		return !e.hasNext()
	}
	return a.Pattern.Has(e.space)
}

// isClosed tells whether an open command is closed by its second address.
func (e *editor) isClosed(second *program.Address) bool {
	return e.isPassed(second) || e.isMeant(second)
}

// isPassed tells whether an address is a number that no later line can have.
func (e *editor) isPassed(a *program.Address) bool {
	return a.Kind == program.Number && a.Number <= e.line
}
