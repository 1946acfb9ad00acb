package complete

// allowance of work, counted in terms that are taken away: what is only tried must come to an end soon. None at all, nil, allows whatever it takes.
type allowance struct{ terms int }

func (a *allowance) spend(terms int) {
	if a != nil {
		a.terms -= terms
	}
}

func (a *allowance) spent() bool { return a != nil && a.terms < 0 }
