package model

import (
	"spate/api"
	"spate/pane"
)

// The bounds of a configuration that api does not name (W5).
const (
	maxBox     = 64
	maxAdmit   = 64
	maxChunk   = 64
	leastSlots = 2
	leastFrame = 16
	maxBuffer  = 1 << 17
)

// isRight asks for W5, also of what a model does not use.
func isRight(c api.Config) bool {
	return areRight(c.Views) && hasRightLayout(c) && hasRightBounds(c)
}

func areRight(views []api.View) bool {
	for _, v := range views {
		if pane.Check(v) != api.OK {
			return false
		}
	}
	return isIn(len(views), 1, api.MaxViews)
}

// hasRightLayout asks how many there are of each part.
func hasRightLayout(c api.Config) bool {
	return isIn(c.Sources, 1, api.MaxTasks) &&
		isIn(c.Operators, 1, api.MaxTasks) &&
		isIn(c.Shards, 1, api.MaxShard)
}

// hasRightBounds asks how much each part takes.
func hasRightBounds(c api.Config) bool {
	return isIn(c.Slots, leastSlots, api.MaxSlots) &&
		isIn(c.Box, 1, maxBox) &&
		isIn(c.Admit, 1, maxAdmit) &&
		isIn(c.Pins, 1, api.MaxPins) &&
		isIn(c.Chunk, 1, maxChunk) &&
		isIn(c.Frame, leastFrame, api.MaxBody) &&
		isIn(c.In, 1, maxBuffer) &&
		isIn(c.Out, 1, maxBuffer)
}

func isIn(n, least, most int) bool {
	return n >= least && n <= most
}
