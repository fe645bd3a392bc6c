package topo

import (
	"reprise/api"
	"reprise/coord"
	"reprise/disk"
	"reprise/journal"
	"reprise/source"
	"reprise/store"
	"reprise/worker"
)

const (
	// coordBlocks is how many blocks a coordinator's disk has: a journal's.
	coordBlocks = 2
	// storeBlocks is how many blocks a store's disk has: two for roots, and two for each page.
	storeBlocks = 2 + 2*api.StorePages
)

// node is one of a topology's. Each kind embeds what it is while it runs, and nil while it doesn't:
// so nothing that it held in memory outlives it.
type node interface {
	runs() bool
	// start: the power is on, and the node is opened anew.
	start()
	// stop: the power is off, and what was held in memory is lost.
	stop()
	// take: a message comes to a node that runs: what it sends; ErrDown.
	take(s *source.Source, m api.Msg) ([]api.Msg, api.Errno)
	// drive: the node's disk; nil, if it has none.
	drive() *disk.Disk
}

// coordNode is the coordinator.
type coordNode struct {
	*coord.Coord
	plan api.Plan
	disk *disk.Disk
}

// newCoord: a coordinator that runs, with a new journal.
func newCoord(p api.Plan) *coordNode {
	// A new disk has blocks enough and its power is on, so that there is no error.
	d, _ := disk.New(coordBlocks)
	journal.Format(d, p.Parts)
	c := &coordNode{plan: p, disk: d}
	c.start()
	return c
}

func (c *coordNode) runs() bool { return c.Coord != nil }

func (c *coordNode) start() {
	c.disk.On()
	// A disk that was formatted has a note that holds, wherever its power went.
	c.Coord, _ = coord.Open(c.plan, c.disk)
}

func (c *coordNode) stop() {
	c.disk.Off()
	c.Coord = nil
}

func (c *coordNode) take(_ *source.Source, m api.Msg) ([]api.Msg, api.Errno) { return c.Take(m) }

func (c *coordNode) drive() *disk.Disk { return c.disk }

// done: what is committed, whether the coordinator runs or not. The disk's image tells it while the
// power is off, and looking at that is no read of the disk.
func (c *coordNode) done() api.Triple {
	d, _ := disk.Load(c.disk.Image())
	j, _ := journal.Open(d, c.plan.Parts)
	return j.Note().Done
}

// workerNode is a worker.
type workerNode struct {
	*worker.Worker
	plan   api.Plan
	number int
}

// newWorker: a worker that runs.
func newWorker(p api.Plan, number int) *workerNode {
	w := &workerNode{plan: p, number: number}
	w.start()
	return w
}

func (w *workerNode) runs() bool { return w.Worker != nil }

func (w *workerNode) start() { w.Worker, _ = worker.New(w.plan, w.number) }

func (w *workerNode) stop() { w.Worker = nil }

func (w *workerNode) take(s *source.Source, m api.Msg) ([]api.Msg, api.Errno) { return w.Take(s, m) }

func (w *workerNode) drive() *disk.Disk { return nil }

// storeNode is a store.
type storeNode struct {
	*store.Store
	kind int
	disk *disk.Disk
}

// newStore: a store that runs, without cells.
func newStore(p api.Plan) *storeNode {
	// There is no error, as of the coordinator's.
	d, _ := disk.New(storeBlocks)
	s, _ := store.Format(d, p.Agg)
	return &storeNode{Store: s, kind: p.Agg, disk: d}
}

func (s *storeNode) runs() bool { return s.Store != nil }

func (s *storeNode) start() {
	s.disk.On()
	// A disk that was formatted has a store, wherever its power went.
	s.Store, _ = store.Open(s.disk, s.kind)
}

func (s *storeNode) stop() {
	s.disk.Off()
	s.Store = nil
}

func (s *storeNode) take(_ *source.Source, m api.Msg) ([]api.Msg, api.Errno) {
	switch m.Kind {
	case api.MsgBegin:
		return reply(m, api.MsgBegan, s.Begin(m.Batch, m.Attempt, m.Keys))
	case api.MsgApply:
		return reply(m, api.MsgApplied, s.Apply(m.Batch, m.Attempt, m.Pairs))
	}
	return nil, api.OK
}

func (s *storeNode) drive() *disk.Disk { return s.disk }

// reply: what a store sends back where its call has answered e. One whose power went sends nothing.
func reply(m api.Msg, kind int, e api.Errno) ([]api.Msg, api.Errno) {
	if e == api.ErrDown {
		return nil, e
	}
	return []api.Msg{{Kind: kind, From: m.To, To: m.From, Batch: m.Batch, Attempt: m.Attempt, Code: int(e)}}, api.OK
}
