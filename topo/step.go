package topo

import "reprise/api"

// step: what a step answers, but for the committed batch.
func (t *Topo) step(s api.Step) api.Told {
	switch s.Kind {
	case api.StepProduce:
		return told(t.produce(s.Node, s.Rec))
	case api.StepSwitch:
		return told(0, t.source.Switch(s.Node, s.N != 0))
	case api.StepTick:
		return told(t.tick())
	case api.StepDeliver:
		return told(t.deliver(s.N))
	case api.StepDrop:
		return told(0, t.net.Drop(s.N))
	case api.StepCopy:
		return told(t.net.Copy(s.N))
	case api.StepCut:
		return told(0, t.cut(s.Node, s.N))
	case api.StepCrash:
		return told(0, t.crash(s.Node))
	case api.StepRestart:
		return told(0, t.restart(s.Node))
	case api.StepQuery:
		v, e := t.Query(s.Rec.Key)
		return api.Told{Code: e, Val: v}
	case api.StepRound:
		return told(t.round(), api.OK)
	}
	return api.Told{Code: api.ErrStep}
}

// told: an answer with this number, which is 0 beside an error.
func told(number int, e api.Errno) api.Told { return api.Told{Code: e, Number: number} }

// produce: a record into a partition: how many records that has then; ErrPart, ErrFull, ErrKeys.
func (t *Topo) produce(p int, r api.Record) (int, api.Errno) {
	if e := t.source.Produce(p, r); e != api.OK {
		return 0, e
	}
	return t.source.Len(p), api.OK
}

// tick: how many messages the coordinator's Tick sent; ErrNot, ErrDown.
func (t *Topo) tick() (int, api.Errno) {
	if !t.head.runs() {
		return 0, api.ErrNot
	}
	list, e := t.head.Tick()
	return t.behind(t.head, list, e)
}

// deliver: a message leaves the net and comes: how many were sent of it; ErrNone, ErrNot, ErrDown.
func (t *Topo) deliver(k int) (int, api.Errno) {
	m, e := t.net.Deliver(k)
	if e != api.OK {
		return 0, e
	}
	// Nodes alone send, and to nodes alone: there is one with this number.
	n := t.nodes[m.To]
	if !n.runs() {
		return 0, api.ErrNot
	}
	list, e := n.take(t.source, m)
	return t.behind(n, list, e)
}

// behind: a node's call has answered this: it is sent, or the node's power went and it is down; ErrDown.
func (t *Topo) behind(n node, list []api.Msg, e api.Errno) (int, api.Errno) {
	if e == api.ErrDown {
		n.stop()
		return 0, e
	}
	return t.send(list), api.OK
}

// send: how many of these found room. The others are lost.
func (t *Topo) send(list []api.Msg) int {
	count := 0
	for _, m := range list {
		if _, e := t.net.Send(m); e == api.OK {
			count++
		}
	}
	return count
}

// cut: a node's power goes behind n more writes; ErrNode, ErrNot, ErrArg.
func (t *Topo) cut(i int, n int) api.Errno {
	at := t.at(i)
	if at == nil || at.drive() == nil {
		return api.ErrNode
	}
	if !at.runs() {
		return api.ErrNot
	}
	if n < 0 {
		return api.ErrArg
	}
	at.drive().Cut(n)
	return api.OK
}

// crash: a node goes down; ErrNode, ErrNot.
func (t *Topo) crash(i int) api.Errno {
	at := t.at(i)
	if at == nil {
		return api.ErrNode
	}
	if !at.runs() {
		return api.ErrNot
	}
	at.stop()
	return api.OK
}

// restart: a node starts; ErrNode, ErrRuns.
func (t *Topo) restart(i int) api.Errno {
	at := t.at(i)
	if at == nil {
		return api.ErrNode
	}
	if at.runs() {
		return api.ErrRuns
	}
	at.start()
	return api.OK
}

// round: the messages that are on their way now come, then the coordinator ticks, if it runs: how many came.
// What each of them was answered is told nowhere.
func (t *Topo) round() int {
	flights := t.net.Flights()
	for _, f := range flights {
		t.deliver(f.Number)
	}
	t.tick()
	return len(flights)
}
