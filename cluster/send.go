package cluster

import (
	"spoor/api"
	"spoor/job"
	"spoor/msg"
)

// send puts a message on the way.
func (x *Cluster) send(to int, m msg.Message) {
	if x.net.Send(to, msg.Print(m)) != api.OK {
		x.lost++
	}
}

func (x *Cluster) sendAll(to int, list []msg.Message) {
	for _, m := range list {
		x.send(to, m)
	}
}

// sendOuts puts what the coordinator says on the way.
func (x *Cluster) sendOuts(list []job.Out) {
	for _, o := range list {
		to := o.To
		if to == -1 {
			to = toStore
		}
		x.send(to, o.M)
	}
}

// come lets a text come to whom it goes.
func (x *Cluster) come(to int, s string) {
	m, e := msg.Read(s)
	if e != api.OK {
		return
	}
	switch to {
	case toCoord:
		x.sendOuts(x.coord.Hear(m))
	case toStore:
		x.sendAll(toCoord, x.store.Hear(m))
	default:
		up, over := x.Agent(to).Hear(m)
		x.sendAll(toCoord, up)
		x.sendAll(toStore, over)
	}
}

// tickCoord lets the coordinator's time go on: how much it says.
func (x *Cluster) tickCoord() int {
	outs := x.coord.Tick()
	x.sendOuts(outs)
	return len(outs)
}

// tickStore lets the collector's time go on: how much it says.
func (x *Cluster) tickStore() int {
	list := x.store.Tick()
	x.sendAll(toCoord, list)
	return len(list)
}
