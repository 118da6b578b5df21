package berth

import (
	"errors"

	"berth/api"
	"berth/command"
)

// errnoOf tells which of the document's errors a refusal from inside is;
// no refusal (nil) is OK.
func errnoOf(err error) api.Errno {
	if errors.Is(err, command.ErrForm) {
		return api.ErrArg
	}
	return api.OK
}
