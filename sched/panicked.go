package sched

import (
	"strconv"

	"spate/api"
)

// panicked is the fault of a task whose step panicked. What it panicked with is not kept: nothing is known of it.
type panicked struct {
	task int
}

func (p panicked) Error() string {
	return "task " + strconv.Itoa(p.task) + ": its step panicked: " + api.ErrTask.Error()
}

func (p panicked) Unwrap() error {
	return api.ErrTask
}
