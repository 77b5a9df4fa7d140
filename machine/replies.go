package machine

import (
	"tapster/api"
	"tapster/command"
	"tapster/digits"
)

// told is the Reply of v: granted, if it is Granted.
func told(v api.Verdict, granted api.Reply) api.Reply {
	text := "UNAVAILABLE"
	switch v.Kind {
	case api.Granted:
		return granted
	case api.Denied:
		text = "DENIED " + digits.Print(v.Retry)
		fallthrough
	default:
		return api.Reply{Kind: api.Error, Text: text}
	}
}

// doneOr is the Reply of what tells nothing but an error.
func doneOr(errno api.Errno) api.Reply {
	if errno != api.OK {
		return failed(errno)
	}
	return done()
}

// numberOr is the Reply of what tells a number, or an error.
func numberOr(n int, errno api.Errno) api.Reply {
	if errno != api.OK {
		return failed(errno)
	}
	return number(n)
}

func truth(is bool) api.Reply {
	if is {
		return number(1)
	}
	return number(0)
}

func done() api.Reply {
	return simple("OK")
}

func simple(text string) api.Reply {
	return api.Reply{Kind: api.Simple, Text: text}
}

func number(n int) api.Reply {
	return api.Reply{Kind: api.Int, N: n}
}

func failed(errno api.Errno) api.Reply {
	return api.Reply{Kind: api.Error, Text: command.Errs(errno)}
}
