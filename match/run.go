package match

// machine is a pattern as states. State number n is states[n-1]; what comes behind the last step of a match is the state done.
type machine struct {
	states []state
	start  int
}

const done = 0

// state goes on to next over a step that it takes; a fork goes on to next and to other over none.
type state struct {
	fork        bool
	takes       set
	next, other int
}

// run goes over steps in all ways at one time, so that no step is gone over twice, however many ways there are.
type run struct {
	m *machine
	// now is where it stands, those that began first ahead. Of several in one state only the one that began first is kept: whatever the others come to, it comes to as well.
	now, before []thread
	// reached is, for each state, the round in which it was reached last.
	reached []int
	round   int
	waiting []int
	// ended is where that one began that has reached done in the round, the first of those.
	ended int
}

// thread is a state with the place where the match began.
type thread struct{ state, begun int }

func (m *machine) run() *run {
	return &run{m: m, reached: make([]int, len(m.states)+1), round: 1}
}

// begin: a match may begin here too.
func (r *run) begin(place int) {
	r.reach(r.m.start, place)
}

// feed goes on over a step.
func (r *run) feed(sign rune) {
	r.round++
	r.now, r.before = r.before[:0], r.now
	for _, t := range r.before {
		s := &r.m.states[t.state-1]
		if r.reached[s.next] != r.round && s.takes.has(sign) {
			r.reach(s.next, t.begun)
		}
	}
}

// reach goes on to the state, and from there over no step as far as it can.
func (r *run) reach(n, begun int) {
	r.waiting = append(r.waiting[:0], n)
	for len(r.waiting) > 0 {
		last := len(r.waiting) - 1
		n, r.waiting = r.waiting[last], r.waiting[:last]
		if r.reached[n] == r.round {
			continue
		}
		r.reached[n] = r.round
		if n == done {
			r.ended = begun
			continue
		}
		if s := &r.m.states[n-1]; s.fork {
			r.waiting = append(r.waiting, s.other, s.next)
		} else {
			r.now = append(r.now, thread{n, begun})
		}
	}
}

// done: where the match began that ends here, the first of those; false: none ends here.
func (r *run) done() (begun int, ok bool) {
	return r.ended, r.reached[done] == r.round
}

// drop lets go of all that began behind the place, for one that goes ahead.
func (r *run) drop(place int) {
	for n := len(r.now); n > 0 && r.now[n-1].begun > place; n-- {
		r.now = r.now[:n-1]
	}
}

// idle: is there nothing that goes on?
func (r *run) idle() bool { return len(r.now) == 0 }
