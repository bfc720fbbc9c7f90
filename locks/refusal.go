package locks

import (
	"strconv"

	"spate/api"
)

// refusal wraps the number of what a task did wrong.
type refusal struct {
	task int
	why  api.Errno
}

func (r refusal) Error() string {
	return "task " + strconv.Itoa(r.task) + ": " + r.why.Error()
}

func (r refusal) Unwrap() error {
	return r.why
}
